/-
  Rows of numbers that came in.
-/
import Derived.Test.YtpeblpaadpmceaaMtB
namespace Go.Proofs.Ytpeblpaadpmceaa
open Go Go.RowKit Go.Lib

/-- A row of numbers that came in. -/
def IRow (k : IntKind) (W : World) (X : Option Addr) (l : List Int) : Prop := 0 < l.length → ∃ b o, X = some ⟨b, o, none⟩ ∧ b < W.heap.size ∧ ∀ i x, l[i]? = some x → W.cell? ⟨b, o + i, none⟩ = some (.int k x)
theorem IRow.at_ {k : IntKind} {W w : World} {X : Option Addr} {l : List Int} (h : IRow k W X l) (hb : Below W.heap.size W w) {i : Nat} {x : Int} (hi : l[i]? = some x) : ∃ b o, X = some ⟨b, o, none⟩ ∧ w.cell? ⟨b, o + i, none⟩ = some (.int k x) := by
  have hl : i < l.length := by
    rcases Nat.lt_or_ge i l.length with h' | h'
    · exact h'
    · rw [List.getElem?_eq_none h'] at hi; cases hi
  obtain ⟨b, o, rfl, hlt, hc⟩ := h (by omega)
  exact ⟨b, o, rfl, (hb.cell (p := ⟨b, o + i, none⟩) hlt).trans (hc i x hi)⟩
theorem IRow.all {k : IntKind} {W : World} {X : Option Addr} {l : List Int} (h : IRow k W X l) {i : Nat} {x : Int} (hi : l[i]? = some x) : ∃ b o, X = some ⟨b, o, none⟩ ∧ ∀ w, Below W.heap.size W w → w.cell? ⟨b, o + i, none⟩ = some (.int k x) := by
  have hl : i < l.length := by
    rcases Nat.lt_or_ge i l.length with h' | h'
    · exact h'
    · rw [List.getElem?_eq_none h'] at hi; cases hi
  obtain ⟨b, o, rfl, hlt, hc⟩ := h (by omega)
  exact ⟨b, o, rfl, fun w hb => (hb.cell (p := ⟨b, o + i, none⟩) hlt).trans (hc i x hi)⟩
theorem and_16 (n : Int) : ∃ N : Nat, bits BinOp.and IntKind.i64 n 65535 = (N : Int) ∧ N ≤ 65535 := by
  refine ⟨(BitVec.ofInt 64 n &&& BitVec.ofInt 64 65535).toNat, ?_, ?_⟩
  · show IntKind.i64.wrap ((BitVec.ofInt 64 n &&& BitVec.ofInt 64 65535).toNat : Int) = _
    have : (BitVec.ofInt 64 n &&& BitVec.ofInt 64 65535).toNat ≤ 65535 := by
      rw [BitVec.toNat_and]; exact Nat.and_le_right
    exact IntWalk.i64_in _ (by omega)
  · rw [BitVec.toNat_and]; exact Nat.and_le_right
end Go.Proofs.Ytpeblpaadpmceaa
