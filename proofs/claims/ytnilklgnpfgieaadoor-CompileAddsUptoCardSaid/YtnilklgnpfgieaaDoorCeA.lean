/-
  Where instructions go, plainly: all are known; jumps stay within.
-/
import Derived.Test.YtnilklgnpfgieaaDoorCpO
namespace Go.Proofs.YtnilklgnpfgieaaDoor
open Go Go.RowKit Go.Lib

/-- Known; a Jump, or Zero, goes no further than m. -/
def InJ (m : Nat) (x : In3) : Prop := (1 ≤ x.1 ∧ x.1 ≤ 25) ∧ (x.1 = 15 ∨ x.1 = 16 → 0 ≤ x.2.1 ∧ x.2.1 ≤ m)
theorem InJ.mono {m m' : Nat} {x : In3} (h : InJ m x) (hm : m ≤ m') : InJ m' x := ⟨h.1, fun hx => ⟨(h.2 hx).1, by have := (h.2 hx).2; omega⟩⟩
theorem sameT_j : ∀ k : Fin 17, (k.1 = 3 ∨ 6 ≤ k.1) → (1 ≤ sameT.getD k.1 0 ∧ sameT.getD k.1 0 ≤ 25) ∧ ¬ (sameT.getD k.1 0 = 15 ∨ sameT.getD k.1 0 = 16) := by decide
theorem mkI_j (m : Nat) (s : Sp) (pl : ByteArray → Int) (op n : Int) (x : ByteArray) (h : 1 ≤ op ∧ op ≤ 16) : InJ m (mkI s pl op n x) := by
  unfold mkI InJ
  split
  · simp only; omega
  split
  · simp only; omega
  split
  · simp only; omega
  split
  · simp only; omega
  · have := sameT_j ⟨op.toNat, by omega⟩ (by simp only; omega)
    exact ⟨this.1, fun hx => absurd hx this.2⟩
theorem doI_j (m : Nat) (s : Sp) (op n : Int) (x : ByteArray) : InJ m (doI s op n x) := by
  unfold doI InJ
  split
  · simp only; omega
  split
  · simp only; omega
  split
  · simp only; omega
  split
  · simp only; omega
  split
  · simp only; omega
  split
  · simp only; omega
  · simp only; omega
theorem cE_j (m : Nat) (s : Sp) (pl : ByteArray → Int) : ∀ l : ES, l.og → ∀ x, x ∈ cE s pl l → InJ m x
  | .nil, _, x, h => by cases h
  | .cons op n y l r, ho, x, h => by
    rcases List.mem_append.1 h with h | h
    · exact cE_j m s pl l ho.2.1 x h
    rcases List.mem_cons.1 h with rfl | h
    · exact mkI_j m s pl op n y ho.1
    · exact cE_j m s pl r ho.2.2 x h
theorem cS_j (s : Sp) (pl : ByteArray → Int) : ∀ (l : SS) (p : Nat), l.og → ∀ x, x ∈ cS s pl l p → InJ (p + (cS s pl l p).length) x
  | .nil, _, _, x, h => by cases h
  | .cons op y n l b e r, p, ho, x, h => by
    have hE := fun q => cS_j s pl e q ho.2.2.2.1
    have hB := cS_j s pl b (p + (cE s pl l).length + 1) ho.2.2.1
    have hC := fun m => cE_j m s pl l ho.2.1
    have hR := cS_j s pl r (p + (stI p (cE s pl l) (cS s pl b (p + (cE s pl l).length + 1)) (cS s pl e) (doI s op n y) op).length) ho.2.2.2.2
    simp only [cS] at h ⊢
    rw [List.length_append]
    rcases List.mem_append.1 h with h | h
    · refine InJ.mono (m := p + (stI p (cE s pl l) (cS s pl b (p + (cE s pl l).length + 1)) (cS s pl e) (doI s op n y) op).length) ?_ (by omega)
      clear hR
      generalize cE s pl l = C at *
      generalize cS s pl b (p + C.length + 1) = B at *
      unfold stI at h ⊢
      split at h
      · rename_i h7
        rw [if_pos h7]
        have hE := hE (p + C.length + 1 + B.length + 1)
        generalize cS s pl e (p + C.length + 1 + B.length + 1) = E at *
        simp only [List.length_append, List.length_cons]
        rcases List.mem_append.1 h with h | h
        · exact (hC 0 x h).mono (Nat.zero_le _)
        rcases List.mem_cons.1 h with rfl | h
        · exact ⟨by simp only; omega, fun _ => by simp only; omega⟩
        rcases List.mem_append.1 h with h | h
        · exact (hB x h).mono (by omega)
        rcases List.mem_cons.1 h with rfl | h
        · exact ⟨by simp only; omega, fun _ => by simp only; omega⟩
        · exact (hE x h).mono (by omega)
      rename_i h7
      rw [if_neg h7]
      split at h
      · rename_i h8
        rw [if_pos h8]
        simp only [List.length_append, List.length_cons, List.length_nil]
        rcases List.mem_append.1 h with h | h
        · exact (hC 0 x h).mono (Nat.zero_le _)
        rcases List.mem_cons.1 h with rfl | h
        · exact ⟨by simp only; omega, fun _ => by simp only; omega⟩
        rcases List.mem_append.1 h with h | h
        · exact (hB x h).mono (by omega)
        · rw [List.mem_singleton.1 h]
          exact ⟨by simp only; omega, fun _ => by simp only; omega⟩
      · rename_i h8
        rcases List.mem_append.1 h with h | h
        · exact (hC 0 x h).mono (Nat.zero_le _)
        · rw [List.mem_singleton.1 h]
          exact (doI_j 0 s op n y).mono (Nat.zero_le _)
    · exact (hR x h).mono (by omega)
theorem fnL_j (s : Sp) (pl : ByteArray → Int) (b : SS) (ho : b.og) : ∀ x, x ∈ fnL s pl b → InJ (cS s pl b 0).length x := by
  intro x h
  rcases List.mem_append.1 h with h | h
  · exact (cS_j s pl b 0 ho x h).mono (by omega)
  rcases List.mem_cons.1 h with rfl | h
  · exact ⟨by simp only; omega, fun h => by simp only at h; omega⟩
  · rw [List.mem_singleton.1 h]
    exact ⟨by simp only; omega, fun h => by simp only at h; omega⟩
theorem FcIn.at_ {B : Nat} {W : World} : ∀ {l : List Fc} {b o k : Nat} {f : Fc}, FcIn B W l b o → l[k]? = some f → W.cell? ⟨b, o + k * 5, none⟩ = some (.string f.s) ∧ W.cell? ⟨b, o + k * 5 + 1, none⟩ = some (.int .i64 f.n) ∧ W.cell? ⟨b, o + k * 5 + 2, none⟩ = some (.int .i64 f.v) ∧ W.cell? ⟨b, o + k * 5 + 3, none⟩ = some (.int .i64 f.x) ∧ (∃ v, W.cell? ⟨b, o + k * 5 + 4, none⟩ = some v ∧ InV B W v f.L)
  | x :: r, b, o, 0, s, h, e => by
    simp at e
    subst e
    obtain ⟨h0, h1, h2, h3, h4, _⟩ := h
    simp only [Nat.zero_mul, Nat.add_zero]
    exact ⟨h0, h1, h2, h3, h4⟩
  | x :: r, b, o, k + 1, s, h, e => by
    obtain ⟨_, _, _, _, _, hr⟩ := h
    have := FcIn.at_ hr (k := k) (by simpa using e)
    rw [show o + (k + 1) * 5 = o + 5 + k * 5 by omega]
    exact this
end Go.Proofs.YtnilklgnpfgieaaDoor
