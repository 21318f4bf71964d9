/-
  Rows of numbers that came in; one array behind others, plainly.
-/
import Derived.Test.YtimpobfilihhmaaHpE
namespace Go.Proofs.Ytimpobfilihhmaa
open Go Go.RowKit Go.Lib

/-- A row of numbers that came in. -/
def IRow (k : IntKind) (W : World) (X : Option Addr) (l : List Int) : Prop := 0 < l.length → ∃ b o, X = some ⟨b, o, none⟩ ∧ b < W.heap.size ∧ ∀ i x, l[i]? = some x → W.cell? ⟨b, o + i, none⟩ = some (.int k x)
theorem IRow.at_ {k : IntKind} {W w : World} {X : Option Addr} {l : List Int} (h : IRow k W X l) (hb : Below W.heap.size W w) {i : Nat} {x : Int} (hi : l[i]? = some x) : ∃ b o, X = some ⟨b, o, none⟩ ∧ w.cell? ⟨b, o + i, none⟩ = some (.int k x) := by
  have hl : i < l.length := by
    rcases Nat.lt_or_ge i l.length with h' | h'
    · exact h'
    · rw [List.getElem?_eq_none h'] at hi; cases hi
  obtain ⟨b, o, rfl, hlt, hc⟩ := h (by omega)
  exact ⟨b, o, rfl, (hb.cell (p := ⟨b, o + i, none⟩) hlt).trans (hc i x hi)⟩
theorem arr_last (A : List (List Int)) (b : List Int) : arr (A ++ [b]) (A.length : Int) = b := arr_nat (by simp)
theorem inR_last (A : List (List Int)) (b : List Int) (i : Int) : inR (A ++ [b]) (A.length : Int) i = decide (0 ≤ i ∧ i < (b.length : Int)) := by unfold inR; rw [arr_last]
theorem gtV_last (A : List (List Int)) (b : List Int) (j : Nat) (h : j < b.length) : inR (A ++ [b]) (A.length : Int) (j : Int) = true ∧ gtV (A ++ [b]) (A.length : Int) (j : Int) = b.getD j 0 := by
  have h1 : inR (A ++ [b]) (A.length : Int) (j : Int) = true := by rw [inR_last]; exact decide_eq_true (by omega)
  refine ⟨h1, ?_⟩
  unfold gtV
  rw [if_pos h1, arr_last, Int.toNat_natCast]
theorem stA_last (A : List (List Int)) (b : List Int) (j : Nat) (v : Int) (h : j < b.length) : stA (A ++ [b]) (A.length : Int) (j : Int) v = A ++ [b.set j v] := by
  unfold stA
  rw [if_pos (gtV_last A b j h).1, arr_last, Int.toNat_natCast, Int.toNat_natCast, List.set_append, if_neg (by omega), Nat.sub_self, List.set_cons_zero]
theorem u8_small {x : Int} (h0 : 0 ≤ x) (h1 : x ≤ 255) : IntKind.u8.wrap x = x := by
  have : IntKind.u8.wrap x = x % 256 := by unfold IntKind.wrap; simp [IntKind.bits, IntKind.signed]
  rw [this]; omega
theorem and_16 (n : Int) : ∃ N : Nat, bits BinOp.and IntKind.i64 n 65535 = (N : Int) ∧ N ≤ 65535 := by
  refine ⟨(BitVec.ofInt 64 n &&& BitVec.ofInt 64 65535).toNat, ?_, ?_⟩
  · show IntKind.i64.wrap ((BitVec.ofInt 64 n &&& BitVec.ofInt 64 65535).toNat : Int) = _
    have : (BitVec.ofInt 64 n &&& BitVec.ofInt 64 65535).toNat ≤ 65535 := by
      rw [BitVec.toNat_and]; exact Nat.and_le_right
    exact IntWalk.i64_in _ (by omega)
  · rw [BitVec.toNat_and]; exact Nat.and_le_right
end Go.Proofs.Ytimpobfilihhmaa
