/-
  Rows of instructions in memory; 'of' and 'shown' of layer 10's statements.
-/
import Derived.Test.YtbgjlmcagdgpkaaDoorVyU
namespace Go.Proofs.YtbgjlmcagdgpkaaDoor
open Go Go.RowKit Go.Lib

def rowI : List (Int × Int × Int) → List Value
  | [] => []
  | (op, a, n) :: r => .int .i64 op :: .int .i64 a :: .int .i64 n :: rowI r
theorem rowI_len : ∀ l : List (Int × Int × Int), (rowI l).length = l.length * 3
  | [] => rfl
  | (_, _, _) :: r => by simp [rowI, rowI_len r]; omega
theorem rowI_app : ∀ a b : List (Int × Int × Int), rowI (a ++ b) = rowI a ++ rowI b
  | [], _ => rfl
  | (_, _, _) :: r, b => by simp [rowI, rowI_app r b]
theorem rowI_one : ∀ (l : List (Int × Int × Int)), ∀ u ∈ rowI l, u.oneCell' = true
  | [], u, h => by cases h
  | (_, _, _) :: r, u, h => by
    simp only [rowI, List.mem_cons] at h
    rcases h with rfl | rfl | rfl | h
    · rfl
    · rfl
    · rfl
    · exact rowI_one r u h
theorem ins_of {W : World} : ∀ {l : List (Int × Int × Int)} {b o : Nat}, InsOk l → (∀ j u, (rowI l)[j]? = some u → W.cell? ⟨b, o + j, none⟩ = some u) → InsIn W l b o
  | [], _, _, _, _ => trivial
  | (op, a, n) :: r, b, o, h1, h2 => ⟨h2 0 _ rfl, h2 1 _ rfl, h2 2 _ rfl, h1 _ List.mem_cons_self, ins_of (fun x hx => h1 x (List.mem_cons_of_mem _ hx)) fun j u hu => by
    rw [show o + 3 + j = o + (j + 3) by omega]
    exact h2 (j + 3) u (by simpa [rowI] using hu)⟩
theorem inv_blk {W : World} {k n : Nat} {T : TypeId} {cs : Array Value} {l : List (Int × Int × Int)} (h : W.heap[k]? = some (.cells cs T)) (hc : cs = (rowI l).toArray) (hok : InsOk l) (hn : l.length = n) (hl : n ≤ 9223372036854775807) : InV W.heap.size W (.slice (some ⟨k, 0, none⟩) n n) l := by
  subst hn hc
  exact ⟨_, _, rfl, Nat.le_refl _, hl, fun _ => ⟨k, 0, rfl, blk_lt h, ins_of hok fun j u hu => by rw [Nat.zero_add, blk_cell h]; simpa using hu⟩⟩
/-- A row of the call's own that holds such cells is a slice of instructions. -/
theorem own_ins {W : World} {base e : Nat} {v : Value} {l : List (Int × Int × Int)} {n : Nat} (h : W.ownsRow base e 3 v n (rowI l)) (hn : n = l.length) (hok : InsOk l) : InV W.heap.size W v l := by
  subst hn
  by_cases h0 : 0 < l.length
  · obtain ⟨g, cap, rfl, h1, h2, h3, h4⟩ := own_cells h h0
    exact ⟨_, cap, rfl, h1, h2, fun _ => ⟨g, 0, rfl, h3, ins_of hok fun j u hu => by rw [Nat.zero_add]; exact h4 j u hu⟩⟩
  · rcases h.2 with ⟨rfl, e⟩ | ⟨g, cap, cur, rfl, _, _, hnc, hcm, _⟩
    · exact ⟨none, 0, by rw [e], by omega, by omega, fun h => absurd h h0⟩
    · exact ⟨_, cap, rfl, hnc, by unfold maxLen at hcm; omega, fun h => absurd h h0⟩
/-- Main alone, as 'of' makes it. -/
def fvOf (L : List (Int × Int × Int)) : Fv := ⟨⟨#[]⟩, 0, 2, 1, L⟩
set_option maxRecDepth 100000 in
set_option maxHeartbeats 1000000 in
theorem of_any (A : Option Addr) (n c : Nat) (L : List (Int × Int × Int)) (w : World) (h : InV w.heap.size w (.slice A n c) L) :
    Calls Tryd.prog 7 #[.slice A n c] w fun e w' => ∃ v, e = .returned (.agg #[v]) ∧ FvV w'.heap.size w' v [fvOf L] ∧ Below w.heap.size w w' := by
  have HI := Lib.hid h
  clear h
  go_enter Tryd.func7, Tryd.ntmps7
  go_wp2
  obtain ⟨W, hW⟩ : ∃ W, (w.alloc (.cells #[.slice (some ⟨w.heap.size + 1, 0, none⟩) 1 1] 29)).alloc (.cells #[.string ⟨#[]⟩, .int .i64 0, .int .i64 2, .int .i64 1, .slice A n c] 45) = W := ⟨_, rfl⟩
  have hb : Below w.heap.size w W := by rw [← hW]; exact ((Below.refl _ _).alloc (Nat.le_refl _) _).alloc (by simp) _
  have hx : W.heap[w.heap.size]? = some (.cells #[.slice (some ⟨w.heap.size + 1, 0, none⟩) 1 1] 29) := by rw [← hW]; exact blk_alloc (heap_alloc_new _ _) _
  have hy : W.heap[w.heap.size + 1]? = some (.cells #[.string ⟨#[]⟩, .int .i64 0, .int .i64 2, .int .i64 1, .slice A n c] 45) := by
    rw [← hW]
    have := heap_alloc_new (w.alloc (.cells #[.slice (some ⟨w.heap.size + 1, 0, none⟩) 1 1] 29)) (.cells #[.string ⟨#[]⟩, .int .i64 0, .int .i64 2, .int .i64 1, .slice A n c] 45)
    rwa [World.size_alloc] at this
  rw [hW]
  have c0 : W.cell? ⟨w.heap.size, 0, none⟩ = some (.slice (some ⟨w.heap.size + 1, 0, none⟩) 1 1) := (blk_cell hx 0).trans rfl
  refine bodyPost_ret (v := .agg #[.slice (some ⟨w.heap.size + 1, 0, none⟩) 1 1]) ?_ rfl ⟨_, rfl, ⟨_, 1, rfl, Nat.le_refl _, by decide, fun _ => ⟨_, _, rfl, blk_lt hy, (blk_cell hy 0).trans rfl, (blk_cell hy 1).trans rfl, (blk_cell hy 2).trans rfl, (blk_cell hy 3).trans rfl, ⟨_, (blk_cell hy 4).trans rfl, HI.out.below hb hb.size⟩, trivial⟩⟩, hb⟩
  simp [results, Tryd.results7, go_sem, c0]
theorem code_t (v : Value) (l : List Fv) (lo : Nat) (z : Int) (hz : codeErr l = z) (w : World) (hv : FvV w.heap.size w v l) (hs : Short l) (ht : CT lo w) :
    Calls Tryd.prog 6 #[.agg #[v]] w fun e w' => e = .returned (.int .i64 z) ∧ Below w.heap.size w w' := by
  subst hz
  exact code_any v l lo w hv hs ht
theorem fvv_nil (B : Nat) (W : World) : FvV B W (.slice none 0 0) [] := ⟨none, 0, rfl, Nat.le_refl _, by decide, fun h => by simp at h⟩
theorem short_nil : Short [] := fun f hf => by cases hf
theorem short_of {L : List (Int × Int × Int)} (h : L.length ≤ 1000000000) : Short [fvOf L] := fun f hf => by rw [List.mem_singleton.1 hf]; exact h
def vL0 : List (Int × Int × Int) := [(1, 0, 1), (18, 0, 0)]
theorem vE0 : codeErr [fvOf vL0] = 0 := by decide +kernel
theorem vO0 : InsOk vL0 := by
  intro x hx
  simp only [vL0, List.mem_cons, List.not_mem_nil, or_false] at hx
  rcases hx with rfl | rfl <;> exact ⟨⟨by decide, by decide⟩, ⟨by decide, by decide⟩, ⟨by decide, by decide⟩⟩
def vL1 : List (Int × Int × Int) := [(18, 0, 0)]
theorem vE1 : codeErr [fvOf vL1] = 6 := by decide +kernel
theorem vO1 : InsOk vL1 := by
  intro x hx
  simp only [vL1, List.mem_cons, List.not_mem_nil, or_false] at hx
  rcases hx with rfl <;> exact ⟨⟨by decide, by decide⟩, ⟨by decide, by decide⟩, ⟨by decide, by decide⟩⟩
def vL2 : List (Int × Int × Int) := [(1, 0, 0), (16, 3, 0), (1, 0, 0), (1, 0, 0), (18, 0, 0)]
theorem vE2 : codeErr [fvOf vL2] = 6 := by decide +kernel
theorem vO2 : InsOk vL2 := by
  intro x hx
  simp only [vL2, List.mem_cons, List.not_mem_nil, or_false] at hx
  rcases hx with rfl | rfl | rfl | rfl | rfl <;> exact ⟨⟨by decide, by decide⟩, ⟨by decide, by decide⟩, ⟨by decide, by decide⟩⟩
def vL3 : List (Int × Int × Int) := [(15, 2, 0), (99, 0, 0), (1, 0, 0), (1, 0, 0), (18, 0, 0)]
theorem vE3 : codeErr [fvOf vL3] = 0 := by decide +kernel
theorem vO3 : InsOk vL3 := by
  intro x hx
  simp only [vL3, List.mem_cons, List.not_mem_nil, or_false] at hx
  rcases hx with rfl | rfl | rfl | rfl | rfl <;> exact ⟨⟨by decide, by decide⟩, ⟨by decide, by decide⟩, ⟨by decide, by decide⟩⟩
def vL4 : List (Int × Int × Int) := [(1, 0, 0)]
theorem vE4 : codeErr [fvOf vL4] = 6 := by decide +kernel
theorem vO4 : InsOk vL4 := by
  intro x hx
  simp only [vL4, List.mem_cons, List.not_mem_nil, or_false] at hx
  rcases hx with rfl <;> exact ⟨⟨by decide, by decide⟩, ⟨by decide, by decide⟩, ⟨by decide, by decide⟩⟩
def vL5 : List (Int × Int × Int) := [(2, 2, 0), (18, 0, 0)]
theorem vE5 : codeErr [fvOf vL5] = 6 := by decide +kernel
theorem vO5 : InsOk vL5 := by
  intro x hx
  simp only [vL5, List.mem_cons, List.not_mem_nil, or_false] at hx
  rcases hx with rfl | rfl <;> exact ⟨⟨by decide, by decide⟩, ⟨by decide, by decide⟩, ⟨by decide, by decide⟩⟩
theorem vEn : codeErr [] = 6 := by decide +kernel
set_option maxRecDepth 100000 in
set_option maxHeartbeats 8000000 in
theorem shown10_any (lo : Nat) (w : World) (ht : CT lo w) : Calls Tryd.prog 4 #[] w fun e w' => e = .returned (.bool true) ∧ Below w.heap.size w w' := by
  have HT := Lib.hid ht
  clear ht
  go_enter Tryd.func4, Tryd.ntmps4
  go_upto_region 7 with fail
  obtain ⟨W, hW⟩ : ∃ W, ((((((w.alloc (.cells #[.int .i64 1, .int .i64 0, .int .i64 1, .int .i64 18, .int .i64 0, .int .i64 0] 36)).alloc (.cells #[.int .i64 18, .int .i64 0, .int .i64 0] 36)).alloc (.cells #[.int .i64 1, .int .i64 0, .int .i64 0, .int .i64 16, .int .i64 3, .int .i64 0, .int .i64 1, .int .i64 0, .int .i64 0, .int .i64 1, .int .i64 0, .int .i64 0, .int .i64 18, .int .i64 0, .int .i64 0] 36)).alloc (.cells #[.int .i64 15, .int .i64 2, .int .i64 0, .int .i64 99, .int .i64 0, .int .i64 0, .int .i64 1, .int .i64 0, .int .i64 0, .int .i64 1, .int .i64 0, .int .i64 0, .int .i64 18, .int .i64 0, .int .i64 0] 36)).alloc (.cells #[.int .i64 1, .int .i64 0, .int .i64 0] 36)).alloc (.cells #[.int .i64 2, .int .i64 2, .int .i64 0, .int .i64 18, .int .i64 0, .int .i64 0] 36)) = W := ⟨_, rfl⟩
  have hb : Below w.heap.size w W := by rw [← hW]; exact ((((((Below.refl _ _).alloc (Nat.le_refl _) _).alloc (by simp only [World.size_alloc]; omega) _).alloc (by simp only [World.size_alloc]; omega) _).alloc (by simp only [World.size_alloc]; omega) _).alloc (by simp only [World.size_alloc]; omega) _).alloc (by simp only [World.size_alloc]; omega) _
  have n0 : W.heap[w.heap.size]? = some (.cells #[.int .i64 1, .int .i64 0, .int .i64 1, .int .i64 18, .int .i64 0, .int .i64 0] 36) := by
    rw [← hW]
    exact blk_alloc (blk_alloc (blk_alloc (blk_alloc (blk_alloc (blk_new (by simp)) _) _) _) _) _
  have I0 : Hid (InV W.heap.size W (.slice (some ⟨w.heap.size, 0, none⟩) 2 2) vL0) := hid (inv_blk n0 rfl vO0 rfl (by decide))
  have n1 : W.heap[w.heap.size + 1]? = some (.cells #[.int .i64 18, .int .i64 0, .int .i64 0] 36) := by
    rw [← hW]
    exact blk_alloc (blk_alloc (blk_alloc (blk_alloc (blk_new (by simp)) _) _) _) _
  have I1 : Hid (InV W.heap.size W (.slice (some ⟨w.heap.size + 1, 0, none⟩) 1 1) vL1) := hid (inv_blk n1 rfl vO1 rfl (by decide))
  have n2 : W.heap[w.heap.size + 1 + 1]? = some (.cells #[.int .i64 1, .int .i64 0, .int .i64 0, .int .i64 16, .int .i64 3, .int .i64 0, .int .i64 1, .int .i64 0, .int .i64 0, .int .i64 1, .int .i64 0, .int .i64 0, .int .i64 18, .int .i64 0, .int .i64 0] 36) := by
    rw [← hW]
    exact blk_alloc (blk_alloc (blk_alloc (blk_new (by simp)) _) _) _
  have I2 : Hid (InV W.heap.size W (.slice (some ⟨w.heap.size + 1 + 1, 0, none⟩) 5 5) vL2) := hid (inv_blk n2 rfl vO2 rfl (by decide))
  have n3 : W.heap[w.heap.size + 1 + 1 + 1]? = some (.cells #[.int .i64 15, .int .i64 2, .int .i64 0, .int .i64 99, .int .i64 0, .int .i64 0, .int .i64 1, .int .i64 0, .int .i64 0, .int .i64 1, .int .i64 0, .int .i64 0, .int .i64 18, .int .i64 0, .int .i64 0] 36) := by
    rw [← hW]
    exact blk_alloc (blk_alloc (blk_new (by simp)) _) _
  have I3 : Hid (InV W.heap.size W (.slice (some ⟨w.heap.size + 1 + 1 + 1, 0, none⟩) 5 5) vL3) := hid (inv_blk n3 rfl vO3 rfl (by decide))
  have n4 : W.heap[w.heap.size + 1 + 1 + 1 + 1]? = some (.cells #[.int .i64 1, .int .i64 0, .int .i64 0] 36) := by
    rw [← hW]
    exact blk_alloc (blk_new (by simp)) _
  have I4 : Hid (InV W.heap.size W (.slice (some ⟨w.heap.size + 1 + 1 + 1 + 1, 0, none⟩) 1 1) vL4) := hid (inv_blk n4 rfl vO4 rfl (by decide))
  have n5 : W.heap[w.heap.size + 1 + 1 + 1 + 1 + 1]? = some (.cells #[.int .i64 2, .int .i64 2, .int .i64 0, .int .i64 18, .int .i64 0, .int .i64 0] 36) := by
    rw [← hW]
    exact blk_new (by simp)
  have I5 : Hid (InV W.heap.size W (.slice (some ⟨w.heap.size + 1 + 1 + 1 + 1 + 1, 0, none⟩) 2 2) vL5) := hid (inv_blk n5 rfl vO5 rfl (by decide))
  rw [hW]
  clear hW n0 n1 n2 n3 n4 n5
  have a0 : Below W.heap.size W W := Below.refl _ _
  have HB := Lib.hid hb
  have HC := Lib.hid (fun W' (h : Below W.heap.size W W') => (HT.out.step (hb.trans (h.mono hb.size)) : CT lo W'))
  clear hb
  go_wp2_with (first
    | (go_at_call 7; ((with_reducible refine (of_any _ _ _ vL0 _ (I0.out.below a0 a0.size)).mono ?_); rintro e x0 ⟨v0, rfl, f0, c0⟩; have a1 := a0.trans (c0.mono a0.size)))
    | (go_at_call 6; ((with_reducible refine (code_t _ [fvOf vL0] lo 0 vE0 _ f0 (short_of (by decide)) (HC.out _ a1)).mono ?_); rintro e y0 ⟨rfl, d0⟩; have a2 := a1.trans (d0.mono a1.size)))
    | (go_at_call 7; ((with_reducible refine (of_any _ _ _ vL1 _ (I1.out.below a2 a2.size)).mono ?_); rintro e x1 ⟨v1, rfl, f1, c1⟩; have a3 := a2.trans (c1.mono a2.size)))
    | (go_at_call 6; ((with_reducible refine (code_t _ [fvOf vL1] lo 6 vE1 _ f1 (short_of (by decide)) (HC.out _ a3)).mono ?_); rintro e y1 ⟨rfl, d1⟩; have a4 := a3.trans (d1.mono a3.size)))
    | (go_at_call 7; ((with_reducible refine (of_any _ _ _ vL2 _ (I2.out.below a4 a4.size)).mono ?_); rintro e x2 ⟨v2, rfl, f2, c2⟩; have a5 := a4.trans (c2.mono a4.size)))
    | (go_at_call 6; ((with_reducible refine (code_t _ [fvOf vL2] lo 6 vE2 _ f2 (short_of (by decide)) (HC.out _ a5)).mono ?_); rintro e y2 ⟨rfl, d2⟩; have a6 := a5.trans (d2.mono a5.size)))
    | (go_at_call 7; ((with_reducible refine (of_any _ _ _ vL3 _ (I3.out.below a6 a6.size)).mono ?_); rintro e x3 ⟨v3, rfl, f3, c3⟩; have a7 := a6.trans (c3.mono a6.size)))
    | (go_at_call 6; ((with_reducible refine (code_t _ [fvOf vL3] lo 0 vE3 _ f3 (short_of (by decide)) (HC.out _ a7)).mono ?_); rintro e y3 ⟨rfl, d3⟩; have a8 := a7.trans (d3.mono a7.size)))
    | (go_at_call 7; ((with_reducible refine (of_any _ _ _ vL4 _ (I4.out.below a8 a8.size)).mono ?_); rintro e x4 ⟨v4, rfl, f4, c4⟩; have a9 := a8.trans (c4.mono a8.size)))
    | (go_at_call 6; ((with_reducible refine (code_t _ [fvOf vL4] lo 6 vE4 _ f4 (short_of (by decide)) (HC.out _ a9)).mono ?_); rintro e y4 ⟨rfl, d4⟩; have a10 := a9.trans (d4.mono a9.size)))
    | (go_at_call 7; ((with_reducible refine (of_any _ _ _ vL5 _ (I5.out.below a10 a10.size)).mono ?_); rintro e x5 ⟨v5, rfl, f5, c5⟩; have a11 := a10.trans (c5.mono a10.size)))
    | (go_at_call 6; ((with_reducible refine (code_t _ [fvOf vL5] lo 6 vE5 _ f5 (short_of (by decide)) (HC.out _ a11)).mono ?_); rintro e y5 ⟨rfl, d5⟩; have a12 := a11.trans (d5.mono a11.size)))
    | (go_at_call 6; ((with_reducible refine (code_t (.slice none 0 0) [] lo 6 vEn y5 (fvv_nil y5.heap.size y5) short_nil (HC.out y5 a12)).mono ?_); rintro e z0 ⟨rfl, d9⟩; have a13 := a12.trans (d9.mono a12.size))))
  go_ret
  exact ⟨rfl, HB.out.trans (a13.mono HB.out.size)⟩
end Go.Proofs.YtbgjlmcagdgpkaaDoor
