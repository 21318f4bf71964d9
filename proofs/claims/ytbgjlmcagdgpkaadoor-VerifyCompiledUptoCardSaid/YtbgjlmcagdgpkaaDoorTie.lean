/-
  DERIVED. GIVEN WITH THE SEED: THE PROGRAM's TIES (one call each: nine closed facts by the kernel) AND EACH ROW's TIE, after the 31st guide's Derived/Test/Toyas{Tie, Card}.lean. No idea stands in it: it is a product of the set-up. Laid BY PROGRAM, IN A SANDBOX (cutbox-door.mjs). By AI agents, Wed Nov 11 2026. No macro, syntax, notation, axiom, sorry.
-/
import Derived.Test.YtbgjlmcagdgpkaaDoorRows
import Derived.LaidByTextLater
import Derived.SevenTiedAt
import Derived.LaidSub
import Derived.LaidOnce
namespace Go.Proofs.YtbgjlmcagdgpkaaDoor
open Go
set_option maxRecDepth 100000
theorem seatTie1 : Tryd.prog.laidByTextLater [("evenhand/tree.ofExprs", Rows.laid_evenhand_tree_ofExprs), ("evenhand/tree.ofStmts", Rows.laid_evenhand_tree_ofStmts), ("evenhand/code.kinds", Rows.laid_evenhand_code_kinds), ("evenhand/compile.same", Rows.laid_evenhand_compile_same)] [.data, .data, .data, .data] true :=
  Program.laidByTextLater_by_one 80 8 157 (by kernel_rfl) (by kernel_rfl) (by kernel_rfl) (by kernel_rfl) (by kernel_rfl) (by kernel_rfl) (fun _ _ => by kernel_rfl)
theorem noOwnUnsafe : Tryd.pinned.checked.prog.headLifts.contains "ownunsafe" = false := by kernel_rfl
theorem tie : Tryd.prog.laidByTextLater [("evenhand/tree.ofExprs", Rows.laid_evenhand_tree_ofExprs), ("evenhand/tree.ofStmts", Rows.laid_evenhand_tree_ofStmts), ("evenhand/code.kinds", Rows.laid_evenhand_code_kinds), ("evenhand/compile.same", Rows.laid_evenhand_compile_same)] [.data, .data, .data, .data] true :=
  Program.laidByTextLater.sub seatTie1 ["evenhand/tree.ofExprs", "evenhand/tree.ofStmts", "evenhand/code.kinds", "evenhand/compile.same"] (by kernel_rfl) (by kernel_rfl)
theorem verifyCompiled_row_tie : Rows.verifyCompiledRow.laidByTextAt .later Tryd.pinned [.data, .data, .data, .data] true :=
  OpenClaim.laidByTextAt_later rfl rfl tie noOwnUnsafe
theorem verifyCompiledUpto_row_tie : Rows.verifyCompiledUptoRow.laidByTextAt .later Tryd.pinned [.data, .data, .data, .data] true :=
  OpenClaim.laidByTextAt_later rfl rfl tie noOwnUnsafe
end Go.Proofs.YtbgjlmcagdgpkaaDoor
