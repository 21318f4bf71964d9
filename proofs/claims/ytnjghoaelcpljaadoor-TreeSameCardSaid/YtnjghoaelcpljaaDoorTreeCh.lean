/-
  Two rows and a box of the call's own.
-/
import Derived.Test.YtnjghoaelcpljaaDoorTreeCg
namespace Go.Proofs.YtnjghoaelcpljaaDoor
open Go Go.RowKit Go.Lib

theorem own_apart {w : World} {base base' size size' n n' : Nat} {e e' : TypeId} {v v' : Value} {xs xs' : List Value} (h : w.ownsRow base e size v n xs) (h' : w.ownsRow base' e' size' v' n' xs') (hne : e ≠ e') : v.ownBlock = none ∨ v.ownBlock ≠ v'.ownBlock := by
  rcases h.2 with ⟨rfl, _⟩ | ⟨g, cap, cur, rfl, _, hg, _⟩
  · exact .inl rfl
  · exact .inr (own_ne h' hg (Ne.symm hne))
theorem own_keep {w w' : World} {base base' size size' n n' : Nat} {e e' : TypeId} {v v' : Value} {xs xs' : List Value} (h : w.ownsRow base e size v n xs) (h' : w.ownsRow base' e' size' v' n' xs') (hne : e ≠ e') (hg : w.grownBy w' v'.ownBlock) : w'.ownsRow base e size v n xs :=
  h.kept hg (own_apart h h' hne)

/-- What a box and two rows of the call's own hold at the end of such a region. -/
def Fin3 (W0 W : World) (k : Nat) (e1 : TypeId) (s1 : Nat) (v1 : Value) (n1 : Nat) (xs1 : List Value) (e2 : TypeId) (s2 : Nat) (v2 : Value) (n2 : Nat) (xs2 : List Value) : Prop :=
  W0.heap.size ≤ k ∧ k < W.heap.size ∧ W.cell? ⟨k, 0, none⟩ = some v1 ∧ W.cell? ⟨k, 1, none⟩ = some v2 ∧ W.ownsRow W0.heap.size e1 s1 v1 n1 xs1 ∧ W.ownsRow W0.heap.size e2 s2 v2 n2 xs2 ∧ some k ≠ v1.ownBlock ∧ some k ≠ v2.ownBlock ∧ Below W0.heap.size W0 W
theorem fin3_alloc {W0 W : World} {e1 e2 t : TypeId} {s1 s2 n1 n2 : Nat} {v1 v2 : Value} {xs1 xs2 : List Value} (hB : Below W0.heap.size W0 W) (h1 : W.ownsRow W0.heap.size e1 s1 v1 n1 xs1) (h2 : W.ownsRow W0.heap.size e2 s2 v2 n2 xs2) :
    Fin3 W0 (W.alloc (.cells #[v1, v2] t)) W.heap.size e1 s1 v1 n1 xs1 e2 s2 v2 n2 xs2 := by
  obtain ⟨a, b, c, d, e, f, g⟩ := fin_alloc (x := v1) (y := v2) (t := t) hB h1
  obtain ⟨_, _, _, _, e', f', _⟩ := fin_alloc (x := v1) (y := v2) (t := t) hB h2
  exact ⟨a, b, c, d, e, e', f, f', g⟩
theorem fin3_set {W0 W : World} {e1 e2 t : TypeId} {s1 s2 n1 n2 k : Nat} {v1 v2 a b : Value} {xs1 xs2 : List Value} (hB : Below W0.heap.size W0 W) (hk : W0.heap.size ≤ k) (hx : W.heap[k]? = some (.cells #[a, b] t)) (hne1 : e1 ≠ t) (hne2 : e2 ≠ t)
    (h1 : W.ownsRow W0.heap.size e1 s1 v1 n1 xs1) (h2 : W.ownsRow W0.heap.size e2 s2 v2 n2 xs2) :
    Fin3 W0 ((W.setCell ⟨k, 0, none⟩ v1).setCell ⟨k, 1, none⟩ v2) k e1 s1 v1 n1 xs1 e2 s2 v2 n2 xs2 := by
  obtain ⟨a, b, c, d, e, f, g⟩ := fin_set (x := v1) (y := v2) hB hk hx hne1 h1
  obtain ⟨_, _, _, _, e', f', _⟩ := fin_set (x := v1) (y := v2) hB hk hx hne2 h2
  exact ⟨a, b, c, d, e, e', f, f', g⟩

end Go.Proofs.YtnjghoaelcpljaaDoor
