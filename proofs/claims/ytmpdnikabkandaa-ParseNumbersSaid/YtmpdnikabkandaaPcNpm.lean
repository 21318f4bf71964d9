/-
  ParseNumbers, plain: what Parse tells of the three texts.
-/
import Derived.Test.YtmpdnikabkandaaPq5
namespace Go.Proofs.Ytmpdnikabkandaa
open Go

def tKeep (m : Nat) : List UInt8 := [107, 101, 101, 112, 32] ++ dg m ++ [59]
def tArr (m : Nat) : List UInt8 := [97, 114, 114, 97, 121, 32, 97, 32] ++ dg m ++ [59]
def tNought (m : Nat) : List UInt8 := [107, 101, 101, 112, 32, 48] ++ dg m ++ [59]
def chkKeep (m : Nat) : Bool := match tlF (tKeep m) with
  | .ok ⟨[], .cons _ _ _ (.cons _ k _ _ _) _ _ .nil⟩ _ => k == (m : Int)
  | _ => false
def chkArr (m : Nat) : Bool := match tlF (tArr m) with
  | .ok ⟨[], .cons _ _ k _ _ _ .nil⟩ _ => k == (m : Int) && m != 0
  | .bad 8 1 => m == 0
  | _ => false
def chkNought (m : Nat) : Bool := match tlF (tNought m) with
  | .bad 5 1 => true
  | _ => false
theorem chk_all : ∀ m : Fin 100, (chkKeep m.val && chkArr m.val && chkNought m.val) = true := by decide +kernel
theorem keep_is {m : Nat} (h : m < 100) : ∃ op s n op2 s2 l2 r2 x y rest, tl (tKeep m) = .ok ⟨[], .cons op s n (.cons op2 m s2 l2 r2) x y .nil⟩ rest := by
  have h1 := chk_all ⟨m, h⟩
  simp only [Bool.and_eq_true] at h1
  have h1 := h1.1.1
  rw [tl_eq]
  unfold chkKeep at h1
  split at h1
  · rename_i op s n op2 k s2 l2 r2 x y rest e
    have hk : k = (m : Int) := by simpa using h1
    subst hk
    exact ⟨_, _, _, _, _, _, _, _, _, _, e⟩
  · cases h1
theorem arr_is {m : Nat} (h : m < 100) : (m = 0 ∧ tl (tArr m) = .bad 8 1) ∨ (m ≠ 0 ∧ ∃ op s l x y rest, tl (tArr m) = .ok ⟨[], .cons op s m l x y .nil⟩ rest) := by
  have h1 := chk_all ⟨m, h⟩
  simp only [Bool.and_eq_true] at h1
  have h1 := h1.1.2
  rw [tl_eq]
  unfold chkArr at h1
  split at h1
  · rename_i op s k l x y rest e
    simp only [Bool.and_eq_true, beq_iff_eq, bne_iff_ne] at h1
    obtain ⟨hk, h0⟩ := h1
    subst hk
    exact .inr ⟨h0, _, _, _, _, _, _, e⟩
  · rename_i e
    exact .inl ⟨by simpa using h1, e⟩
  · cases h1
theorem nought_is {m : Nat} (h : m < 100) : tl (tNought m) = .bad 5 1 := by
  have h1 := chk_all ⟨m, h⟩
  simp only [Bool.and_eq_true] at h1
  have h1 := h1.2
  rw [tl_eq]
  unfold chkNought at h1
  split at h1
  · rename_i e
    exact e
  · cases h1
theorem dg_size {m : Nat} : (dg m).length ≤ 2 := by unfold dg; split <;> simp

end Go.Proofs.Ytmpdnikabkandaa
