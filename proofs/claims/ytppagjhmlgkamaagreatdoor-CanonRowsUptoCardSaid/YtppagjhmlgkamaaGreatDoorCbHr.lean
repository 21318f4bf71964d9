/-
  CanonTokens, CanonBack, CanonRows: a text's bytes, what Text answers, two cells.
-/
import Derived.Test.YtppagjhmlgkamaaGreatDoorCz5
import Derived.Test.YtppagjhmlgkamaaGreatDoorCnZr
namespace Go.Proofs.YtppagjhmlgkamaaGreatDoor
open Go Go.RowKit Go.Lib

def baL (l : List UInt8) : ByteArray := ⟨l.toArray⟩
theorem baL_size (a : List UInt8) : (baL a).size = a.length := by unfold baL; simp [ByteArray.size]
theorem baL_inj {a b : List UInt8} (h : baL a = baL b) : a = b := by
  unfold baL at h
  injection h with h
  have := congrArg Array.toList h
  simpa using this
theorem txt_c {B : ByteArray} {p : Pg} (v : Value) (w : World) (C : Nat) (hC : C ≤ w.heap.size) (hv : PgV C w v p) (ht : TT w) (hc : cntL p.pts ≤ 3200000) (hB : baL (textP p) = B) :
    Calls Tryz.prog 11 #[v] w fun e w' => e = .returned (.string B) ∧ Below w.heap.size w w' := by
  subst hB
  exact text_any_p p v w C hC hv ht.tree ht.canon hc
theorem cells_two {w : World} {g : Nat} {a b : Value} {T : TypeId} {fr : Nat × Nat} (h : w.heap[g]? = some (.cells #[a, b] T fr)) : w.cell? ⟨g, 0, none⟩ = some a ∧ w.cell? ⟨g, 1, none⟩ = some b := ⟨cells_at h 0 rfl, cells_at h 1 rfl⟩
end Go.Proofs.YtppagjhmlgkamaaGreatDoor
