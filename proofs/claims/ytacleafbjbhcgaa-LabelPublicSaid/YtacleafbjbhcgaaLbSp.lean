/-
  What has small names alone tells nothing.
-/
import Derived.Test.YtacleafbjbhcgaaLbSm
namespace Go.Proofs.Ytacleafbjbhcgaa
open Go Go.RowKit Go.Lib

/-- What smallStmts makes: the expressions of a statement at depth d + 1 keep d + 2 levels as a list. -/
def SS.sm : SS → Nat → SS
  | .nil, _ => .nil
  | .cons _ _ _ _ _ _ _, 0 => .nil
  | .cons op s n l b e r, d + 1 => .cons op (vS s) n (l.sm (d + 2)) (b.sm d) (e.sm d) (r.sm (d + 1))
theorem ES.sm_secs : ∀ (l : ES) (d : Nat), (l.sm d).secs.any id = false
  | .nil, _ => rfl
  | .cons _ _ _ _ _, 0 => rfl
  | .cons op n s l r, d + 1 => by
    rw [ES.sm, ES.secs, List.any_cons, ES.sm_secs r (d + 1), Bool.or_false]
    simp [secB, ES.sm_secs l d, vS_small]
theorem any_getD {l : List Bool} (h : l.any id = false) (k : Nat) : l.getD k false = false := by
  rw [List.getD_eq_getElem?_getD]
  cases hk : l[k]? with
  | none => rfl
  | some x =>
    have := List.any_eq_false.1 h x (List.mem_of_getElem? hk)
    simpa using this
theorem into_none {parts : List Bool} (h : parts.any id = false) : ∀ (ps : List ByteArray) (k : Nat), intoP parts ps k = false
  | [], _ => rfl
  | p :: r, k => by rw [intoP, any_getD h, into_none h r (k + 1), Bool.and_false]; rfl
theorem ownE_none (fs : List Fn) (op : Int) (s : ByteArray) {parts : List Bool} (h : parts.any id = false) : ownE fs op s parts = false := by
  simp only [ownE, any_getD h, into_none h, ite_self]
theorem ownS_none (pub : Bool) (op : Int) (s : ByteArray) {parts : List Bool} (h : parts.any id = false) : ownS pub op s parts = false := by
  simp only [ownS, any_getD h, Bool.and_false, Bool.or_false, ite_self]
theorem ES.sm_tells (fs : List Fn) : ∀ (l : ES) (d : Nat), (l.sm d).tells fs = false
  | .nil, _ => rfl
  | .cons _ _ _ _ _, 0 => rfl
  | .cons op n s l r, d + 1 => by rw [ES.sm, ES.tells, ES.sm_tells fs l d, ES.sm_tells fs r (d + 1), ownE_none _ _ _ (ES.sm_secs l d)]; rfl
theorem SS.sm_tells (fs : List Fn) (pub : Bool) : ∀ (l : SS) (d : Nat), (l.sm d).tells fs pub = false
  | .nil, _ => rfl
  | .cons _ _ _ _ _ _ _, 0 => rfl
  | .cons op s n l b e r, d + 1 => by
    rw [SS.sm, SS.tells, ES.sm_tells, SS.sm_tells fs pub b d, SS.sm_tells fs pub e d, SS.sm_tells fs pub r (d + 1), ownS_none _ _ _ (ES.sm_secs l (d + 2))]
    rfl
end Go.Proofs.Ytacleafbjbhcgaa
