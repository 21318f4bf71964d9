/-
  What was made in a region that draws its order: blocks that hold what they held, from world to world (of any seat that holds package tree).
-/
import Derived.Test.YtahclmofioiibaaDoorSc
namespace Go.Proofs.YtahclmofioiibaaDoor
open Go Go.RowKit Go.Lib

theorem belowA {W0 W : World} (h : Below W0.heap.size W0 W) (o : Obj) : Below W0.heap.size W0 (W.alloc o) := h.alloc h.size o
theorem belowS {W0 W : World} (h : Below W0.heap.size W0 W) {k i : Nat} (hk : W0.heap.size ≤ k) (u : Value) : Below W0.heap.size W0 (W.setCell ⟨k, i, none⟩ u) := h.setCell hk u
theorem belowD {B : Nat} {W0 W : World} (h : Below B W0 W) : Below B W0 W.drew := h.trans ⟨rfl, rfl, rfl, Nat.le_refl _, fun _ _ => rfl⟩
theorem blk_drew {W : World} {k : Nat} {o : Obj} (h : W.heap[k]? = some o) : W.drew.heap[k]? = some o := h
theorem own_drew {W : World} {base : Nat} {e : TypeId} {size n : Nat} {v : Value} {xs : List Value} (h : W.ownsRow base e size v n xs) : W.drew.ownsRow base e size v n xs := h
theorem blk_new {W : World} {k : Nat} {o : Obj} (hk : W.heap.size = k) : (W.alloc o).heap[k]? = some o := by subst hk; exact heap_alloc_new W o
theorem blk_lt {W : World} {k : Nat} {o : Obj} (h : W.heap[k]? = some o) : k < W.heap.size := by
  rcases Nat.lt_or_ge k W.heap.size with h' | h'
  · exact h'
  · rw [Array.getElem?_eq_none h'] at h; cases h
theorem blk_alloc {W : World} {k : Nat} {o : Obj} (h : W.heap[k]? = some o) (o' : Obj) : (W.alloc o').heap[k]? = some o := (Below.heap_alloc W o' k (blk_lt h)).trans h
theorem blk_grown {W W' : World} {k : Nat} {o : Obj} {row : Option Nat} (h : W.heap[k]? = some o) (hg : W.grownBy W' row) (hne : some k ≠ row) : W'.heap[k]? = some o := (hg.block k (blk_lt h) hne).trans h
theorem blk_cell {W : World} {k : Nat} {cs : Array Value} {t : TypeId} {fz : Nat × Nat} (h : W.heap[k]? = some (.cells cs t fz)) (i : Nat) : W.cell? ⟨k, i, none⟩ = cs[i]? := by
  simp [World.cell?, h]
theorem blk_frozen {W : World} {k : Nat} {cs : Array Value} {t : TypeId} (h : W.heap[k]? = some (.cells cs t)) (i : Nat) : W.frozen? ⟨k, i, none⟩ = false := by
  simp [World.frozen?, h]
theorem blk_news {W : World} {k : Nat} {cs : Array Value} {t : TypeId} (h : W.heap[k]? = some (.cells cs t)) : ∀ ad, some (⟨k, 0, none⟩ : Addr) = some ad → ∀ j u, cs.toList[j]? = some u → W.cell? (ad.add j) = some u := by
  intro ad e j u hu
  injection e with e
  subst e
  rw [at_add, blk_cell h, Nat.zero_add]
  simpa using hu
theorem made_in {W : World} {base k : Nat} {e : TypeId} {size : Nat} (hk : W.heap.size = k) (hb : base ≤ k) : (W.alloc (.cells #[] e)).ownsRow base e size (.slice (some ⟨k, 0, none⟩) 0 0) 0 [] := by
  subst hk
  exact World.ownsRow_made W #[] 0 hb (Nat.zero_le _) (by simp)
theorem own_ne {W : World} {base : Nat} {e t : TypeId} {size n k : Nat} {v : Value} {xs : List Value} {cs : Array Value} (h : W.ownsRow base e size v n xs) (hk : W.heap[k]? = some (.cells cs t)) (hne : e ≠ t) : some k ≠ v.ownBlock := by
  rcases h.2 with ⟨rfl, _⟩ | ⟨g, cap, cur, rfl, _, hg, _⟩
  · simp [Value.ownBlock]
  · intro hq
    simp only [Value.ownBlock, Option.some.injEq] at hq
    subst hq
    rw [hk] at hg
    injection hg with hg
    injection hg with _ h2 _
    exact hne h2.symm
theorem blk_grown_own {W W' : World} {base : Nat} {e t : TypeId} {size n k : Nat} {v : Value} {xs : List Value} {cs : Array Value} (h : W.ownsRow base e size v n xs) (hg : W.grownBy W' v.ownBlock) (hk : W.heap[k]? = some (.cells cs t)) (hne : e ≠ t) : W'.heap[k]? = some (.cells cs t) := blk_grown hk hg (own_ne h hk hne)
theorem own_set {W : World} {base : Nat} {e : TypeId} {size n : Nat} {v : Value} {xs : List Value} (h : W.ownsRow base e size v n xs) {a : Addr} (hne : some a.block ≠ v.ownBlock) (u : Value) : (W.setCell a u).ownsRow base e size v n xs :=
  h.kept (row := some a.block) ⟨rfl, rfl, rfl, by simp, fun k _ hk => Below.heap_setCell W a u k (fun e => hk (by rw [e]))⟩ (.inr (Ne.symm hne))
theorem grown_below {W0 W W' : World} {base : Nat} {e : TypeId} {size n : Nat} {v : Value} {xs : List Value} (h : Below W0.heap.size W0 W) (hown : W.ownsRow base e size v n xs) (hb : W0.heap.size ≤ base) (hg : W.grownBy W' v.ownBlock) : Below W0.heap.size W0 W' :=
  h.grown hg h.size fun k hk => Nat.le_trans hb (hown.lt k hk).1

/-- What a box and a row of the call's own hold at the end of such a region. -/
def Fin2 (W0 W : World) (e : TypeId) (size k : Nat) (x y v : Value) (n : Nat) (xs : List Value) : Prop :=
  W0.heap.size ≤ k ∧ k < W.heap.size ∧ W.cell? ⟨k, 0, none⟩ = some x ∧ W.cell? ⟨k, 1, none⟩ = some y ∧ W.ownsRow W0.heap.size e size v n xs ∧ some k ≠ v.ownBlock ∧ Below W0.heap.size W0 W
theorem fin_set {W0 W : World} {e t : TypeId} {size k n : Nat} {x y v a b : Value} {xs : List Value} (hB : Below W0.heap.size W0 W) (hk : W0.heap.size ≤ k) (hx : W.heap[k]? = some (.cells #[a, b] t)) (hne : e ≠ t) (hown : W.ownsRow W0.heap.size e size v n xs) : Fin2 W0 ((W.setCell ⟨k, 0, none⟩ x).setCell ⟨k, 1, none⟩ y) e size k x y v n xs := by
  have hd := own_ne hown hx hne
  have h0 : W.cell? ⟨k, 0, none⟩ = some a := blk_cell hx 0
  have h1 : W.cell? ⟨k, 1, none⟩ = some b := blk_cell hx 1
  have n1 : (⟨k, 0, none⟩ : Addr) ≠ ⟨k, 1, none⟩ := by simp
  refine ⟨hk, by have := blk_lt hx; simpa using this, ?_, ?_, own_set (own_set hown hd x) hd y, hd, belowS (belowS hB hk x) hk y⟩
  · rw [World.cell?_setCell_other (h := Ne.symm n1)]
    exact World.cell?_setCell_same _ _ _ h0
  · exact World.cell?_setCell_same (u := b) _ _ _ (by rw [World.cell?_setCell_other (h := n1)]; exact h1)
theorem fin_alloc {W0 W : World} {e t : TypeId} {size n : Nat} {x y v : Value} {xs : List Value} (hB : Below W0.heap.size W0 W) (hown : W.ownsRow W0.heap.size e size v n xs) : Fin2 W0 (W.alloc (.cells #[x, y] t)) e size W.heap.size x y v n xs := by
  have hx : (W.alloc (.cells #[x, y] t)).heap[W.heap.size]? = some (.cells #[x, y] t) := heap_alloc_new W _
  refine ⟨hB.size, by simp, blk_cell hx 0, blk_cell hx 1, hown.alloc _, fun hq => ?_, belowA hB _⟩
  exact absurd (hown.lt _ hq.symm).2 (Nat.lt_irrefl _)

end Go.Proofs.YtahclmofioiibaaDoor
