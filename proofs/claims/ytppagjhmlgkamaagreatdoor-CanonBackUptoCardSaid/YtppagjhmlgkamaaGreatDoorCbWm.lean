/-
  CanonTokens: the walk.
-/
import Derived.Test.YtppagjhmlgkamaaGreatDoorCq5
import Derived.Test.YtppagjhmlgkamaaGreatDoorCbVm
import Derived.Test.YtppagjhmlgkamaaGreatDoorTreeUm
import Derived.Test.YtppagjhmlgkamaaGreatDoorCbHm
import Derived.Laws.IdiomStrings
namespace Go.Proofs.YtppagjhmlgkamaaGreatDoor
open Go Go.RowKit Go.Lib

theorem run_bs (w : World) (s : ByteArray) : (convert 9 29 (.string s)).run Tryz.prog w = .ok (.slice (some ⟨w.heap.size, 0, none⟩) s.size (grownCap w s.size 0 5))
    (w.drew.alloc (.cells (bytesRow s (grownCap w s.size 0 5)) 5 ((bytesRow s (grownCap w s.size 0 5)).size, (bytesRow s (grownCap w s.size 0 5)).size + 1))) :=
  run_bytes_of_string w _ _ _ s Tryz.underlying9 Tryz.underlying29 Tryz.underlying5
theorem row_bs (w : World) (s : ByteArray) (c : Nat) {fz : Nat × Nat} : Row (w.drew.alloc (.cells (bytesRow s c) 5 fz)) (some ⟨w.heap.size, 0, none⟩) s.data.toList := by
  intro _
  refine ⟨w.heap.size, 0, rfl, by simp, fun i hi => ?_⟩
  have hi' : i < s.data.size := by simpa using hi
  rw [Nat.zero_add]
  refine (World.cell?_alloc_mark w.drew _ _ _ i).trans ((bytesRow_at s c i hi').trans ?_)
  unfold nth bv
  rw [List.getD_eq_getElem?_getD, List.getElem?_eq_getElem hi]
  simp
theorem below_bs (w : World) (o : Obj) : Below w.heap.size w (w.drew.alloc o) := Below.alloc (below_drw (Below.refl _ _)) (Nat.le_refl _) o
abbrev newB (w : World) (s : ByteArray) (z : Nat) : World := (w.alloc (.cells (bytesRow s (grownCap w z 0 5)) 5 ((bytesRow s (grownCap w z 0 5)).size, (bytesRow s (grownCap w z 0 5)).size + 1))).drew
end Go.Proofs.YtppagjhmlgkamaaGreatDoor
