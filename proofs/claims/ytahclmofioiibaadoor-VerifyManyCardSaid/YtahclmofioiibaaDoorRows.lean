/-
  NARROWER THAN 'FOR EVERY INPUT', by the rows' own cells (each row's printed sentence says how): VerifyCompiled: loops, laid · VerifyDepths: laid · VerifyJumps: laid · VerifyMany: laid.
  DERIVED. THE GIVEN ROWS OF THIS SEAT. 4 by the template 'for every input the law returns true; each argument reads behind the call as it read before'; 0 by the template 'total and deterministic' (their statements: YtahclmofioiibaaDoorTotals.lean).
  GIVEN WITH THE SEED: the statements are not yours to turn. If you find one false, say at which input.
  Laid BY PROGRAM, IN A SANDBOX (cutbox-rows.mjs): the forced cells as the released guide's own fill.sh prints them over the translation 0c58b8e17f689960… (all of the seat's roots in one cut). By AI agents, Wed Nov 11 2026. No macro, syntax, notation, axiom, sorry.
-/
import Derived.Test.YtahclmofioiibaaDoorChecked
import GoSem.Claim
import GoSem.ClaimJoined
import GoSem.ClaimMapViews
import Derived.JoinedTies
import Derived.KernelRfl
namespace Go.Proofs.YtahclmofioiibaaDoor
/- THE CELL 'sum', in the pinned program and in every row, IS THE sha256 OF THE DUMP (.gsa) THAT YtahclmofioiibaaDoorProg.lean LOADS. Nothing in Lean hashes anything: it is a label: what it is worth is what the hold of that sum in a sandbox is worth. -/
noncomputable def Tryd.pinned : Pinned := { name := "ytahclmofioiibaadoor", sum := "0c58b8e17f6899606b981afd2556519085b82792d7b48e615924f1a4c1bdef85", checked := Tryd.checked }
namespace Rows
def none {H : Type} : Left H := { results := [], args := [] }

/- WHAT THE LISTED PACKAGE-LEVEL VARIABLES READ AS WHEN THE CALL BEGINS. Each datum BY PROGRAM (the guide's laid-datum.mjs) off the statement by which the dump's own 'gosem.cut.vars' lays the variable. In a bare row this is a premise. The card (YtahclmofioiibaaDoorCards.lean) ties it to the program's text. -/
def laid_evenhand_tree_ofExprs {H : Type} : DataW H := .agg [.agg [.lit (.bool false), .lit (.int .i64 0), .lit (.int .i64 0), .lit (.int .i64 0), .lit (.int .i64 0), .lit (.bool false), .lit (.bool false)], .agg [.lit (.bool false), .lit (.int .i64 0), .lit (.int .i64 9223372036854775807), .lit (.int .i64 0), .lit (.int .i64 0), .lit (.bool false), .lit (.bool false)], .agg [.lit (.bool true), .lit (.int .i64 0), .lit (.int .i64 0), .lit (.int .i64 0), .lit (.int .i64 0), .lit (.bool false), .lit (.bool false)], .agg [.lit (.bool false), .lit (.int .i64 0), .lit (.int .i64 0), .lit (.int .i64 0), .lit (.int .i64 0), .lit (.bool false), .lit (.bool false)], .agg [.lit (.bool true), .lit (.int .i64 0), .lit (.int .i64 0), .lit (.int .i64 1), .lit (.int .i64 1), .lit (.bool false), .lit (.bool false)], .agg [.lit (.bool true), .lit (.int .i64 0), .lit (.int .i64 0), .lit (.int .i64 0), .lit (.int .i64 8), .lit (.bool false), .lit (.bool false)], .agg [.lit (.bool false), .lit (.int .i64 0), .lit (.int .i64 0), .lit (.int .i64 1), .lit (.int .i64 1), .lit (.bool false), .lit (.bool false)], .agg [.lit (.bool false), .lit (.int .i64 0), .lit (.int .i64 0), .lit (.int .i64 1), .lit (.int .i64 1), .lit (.bool false), .lit (.bool false)], .agg [.lit (.bool false), .lit (.int .i64 0), .lit (.int .i64 0), .lit (.int .i64 2), .lit (.int .i64 2), .lit (.bool false), .lit (.bool false)], .agg [.lit (.bool false), .lit (.int .i64 0), .lit (.int .i64 0), .lit (.int .i64 2), .lit (.int .i64 2), .lit (.bool false), .lit (.bool false)], .agg [.lit (.bool false), .lit (.int .i64 0), .lit (.int .i64 0), .lit (.int .i64 2), .lit (.int .i64 2), .lit (.bool false), .lit (.bool false)], .agg [.lit (.bool false), .lit (.int .i64 0), .lit (.int .i64 0), .lit (.int .i64 2), .lit (.int .i64 2), .lit (.bool false), .lit (.bool false)], .agg [.lit (.bool false), .lit (.int .i64 0), .lit (.int .i64 0), .lit (.int .i64 2), .lit (.int .i64 2), .lit (.bool false), .lit (.bool false)], .agg [.lit (.bool false), .lit (.int .i64 0), .lit (.int .i64 0), .lit (.int .i64 2), .lit (.int .i64 2), .lit (.bool false), .lit (.bool false)], .agg [.lit (.bool false), .lit (.int .i64 0), .lit (.int .i64 0), .lit (.int .i64 2), .lit (.int .i64 2), .lit (.bool false), .lit (.bool false)], .agg [.lit (.bool false), .lit (.int .i64 0), .lit (.int .i64 0), .lit (.int .i64 2), .lit (.int .i64 2), .lit (.bool false), .lit (.bool false)], .agg [.lit (.bool false), .lit (.int .i64 0), .lit (.int .i64 0), .lit (.int .i64 2), .lit (.int .i64 2), .lit (.bool false), .lit (.bool false)]]
def laid_evenhand_tree_ofStmts {H : Type} : DataW H := .agg [.agg [.lit (.bool false), .lit (.int .i64 0), .lit (.int .i64 0), .lit (.int .i64 0), .lit (.int .i64 0), .lit (.bool false), .lit (.bool false)], .agg [.lit (.bool true), .lit (.int .i64 0), .lit (.int .i64 0), .lit (.int .i64 1), .lit (.int .i64 1), .lit (.bool false), .lit (.bool false)], .agg [.lit (.bool true), .lit (.int .i64 0), .lit (.int .i64 0), .lit (.int .i64 2), .lit (.int .i64 2), .lit (.bool false), .lit (.bool false)], .agg [.lit (.bool true), .lit (.int .i64 1), .lit (.int .i64 4096), .lit (.int .i64 0), .lit (.int .i64 0), .lit (.bool false), .lit (.bool false)], .agg [.lit (.bool true), .lit (.int .i64 0), .lit (.int .i64 0), .lit (.int .i64 0), .lit (.int .i64 0), .lit (.bool false), .lit (.bool false)], .agg [.lit (.bool false), .lit (.int .i64 0), .lit (.int .i64 0), .lit (.int .i64 1), .lit (.int .i64 1), .lit (.bool false), .lit (.bool false)], .agg [.lit (.bool false), .lit (.int .i64 0), .lit (.int .i64 0), .lit (.int .i64 1), .lit (.int .i64 1), .lit (.bool false), .lit (.bool false)], .agg [.lit (.bool false), .lit (.int .i64 0), .lit (.int .i64 0), .lit (.int .i64 1), .lit (.int .i64 1), .lit (.bool true), .lit (.bool true)], .agg [.lit (.bool false), .lit (.int .i64 0), .lit (.int .i64 0), .lit (.int .i64 1), .lit (.int .i64 1), .lit (.bool true), .lit (.bool false)], .agg [.lit (.bool false), .lit (.int .i64 0), .lit (.int .i64 0), .lit (.int .i64 1), .lit (.int .i64 1), .lit (.bool false), .lit (.bool false)]]
def laid_evenhand_code_kinds {H : Type} : DataW H := .agg [.agg [.lit (.string [63]), .lit (.int .u8 0), .lit (.int .u8 0), .lit (.int .u8 0), .lit (.bool false), .lit (.bool false)], .agg [.lit (.string [112, 117, 115, 104]), .lit (.int .u8 0), .lit (.int .u8 1), .lit (.int .u8 1), .lit (.bool false), .lit (.bool true)], .agg [.lit (.string [108, 111, 97, 100]), .lit (.int .u8 0), .lit (.int .u8 1), .lit (.int .u8 1), .lit (.bool true), .lit (.bool false)], .agg [.lit (.string [115, 116, 111, 114, 101]), .lit (.int .u8 1), .lit (.int .u8 0), .lit (.int .u8 1), .lit (.bool true), .lit (.bool false)], .agg [.lit (.string [110, 101, 103]), .lit (.int .u8 1), .lit (.int .u8 1), .lit (.int .u8 1), .lit (.bool false), .lit (.bool false)], .agg [.lit (.string [110, 111, 116]), .lit (.int .u8 1), .lit (.int .u8 1), .lit (.int .u8 1), .lit (.bool false), .lit (.bool false)], .agg [.lit (.string [97, 100, 100]), .lit (.int .u8 2), .lit (.int .u8 1), .lit (.int .u8 1), .lit (.bool false), .lit (.bool false)], .agg [.lit (.string [115, 117, 98]), .lit (.int .u8 2), .lit (.int .u8 1), .lit (.int .u8 1), .lit (.bool false), .lit (.bool false)], .agg [.lit (.string [109, 117, 108]), .lit (.int .u8 2), .lit (.int .u8 1), .lit (.int .u8 3), .lit (.bool false), .lit (.bool false)], .agg [.lit (.string [100, 105, 118]), .lit (.int .u8 2), .lit (.int .u8 1), .lit (.int .u8 8), .lit (.bool false), .lit (.bool false)], .agg [.lit (.string [109, 111, 100]), .lit (.int .u8 2), .lit (.int .u8 1), .lit (.int .u8 8), .lit (.bool false), .lit (.bool false)], .agg [.lit (.string [108, 101, 115, 115]), .lit (.int .u8 2), .lit (.int .u8 1), .lit (.int .u8 1), .lit (.bool false), .lit (.bool false)], .agg [.lit (.string [115, 97, 109, 101]), .lit (.int .u8 2), .lit (.int .u8 1), .lit (.int .u8 1), .lit (.bool false), .lit (.bool false)], .agg [.lit (.string [97, 110, 100]), .lit (.int .u8 2), .lit (.int .u8 1), .lit (.int .u8 1), .lit (.bool false), .lit (.bool false)], .agg [.lit (.string [111, 114]), .lit (.int .u8 2), .lit (.int .u8 1), .lit (.int .u8 1), .lit (.bool false), .lit (.bool false)], .agg [.lit (.string [106, 117, 109, 112]), .lit (.int .u8 0), .lit (.int .u8 0), .lit (.int .u8 1), .lit (.bool true), .lit (.bool false)], .agg [.lit (.string [122, 101, 114, 111]), .lit (.int .u8 1), .lit (.int .u8 0), .lit (.int .u8 1), .lit (.bool true), .lit (.bool false)], .agg [.lit (.string [99, 97, 108, 108]), .lit (.int .u8 0), .lit (.int .u8 1), .lit (.int .u8 10), .lit (.bool true), .lit (.bool false)], .agg [.lit (.string [114, 101, 116, 117, 114, 110]), .lit (.int .u8 1), .lit (.int .u8 0), .lit (.int .u8 2), .lit (.bool false), .lit (.bool false)], .agg [.lit (.string [112, 114, 105, 110, 116]), .lit (.int .u8 1), .lit (.int .u8 0), .lit (.int .u8 5), .lit (.bool false), .lit (.bool false)], .agg [.lit (.string [107, 101, 101, 112]), .lit (.int .u8 1), .lit (.int .u8 0), .lit (.int .u8 5), .lit (.bool false), .lit (.bool false)], .agg [.lit (.string [105, 110, 112, 117, 116]), .lit (.int .u8 0), .lit (.int .u8 0), .lit (.int .u8 4), .lit (.bool true), .lit (.bool true)], .agg [.lit (.string [97, 114, 114, 97, 121]), .lit (.int .u8 0), .lit (.int .u8 0), .lit (.int .u8 20), .lit (.bool true), .lit (.bool true)], .agg [.lit (.string [103, 101, 116]), .lit (.int .u8 1), .lit (.int .u8 1), .lit (.int .u8 3), .lit (.bool true), .lit (.bool false)], .agg [.lit (.string [115, 101, 116]), .lit (.int .u8 2), .lit (.int .u8 0), .lit (.int .u8 3), .lit (.bool true), .lit (.bool false)], .agg [.lit (.string [99, 108, 111, 99, 107]), .lit (.int .u8 0), .lit (.int .u8 1), .lit (.int .u8 2), .lit (.bool false), .lit (.bool false)]]
def laid_evenhand_compile_same {H : Type} : DataW H := .agg [.lit (.int .i64 0), .lit (.int .i64 0), .lit (.int .i64 0), .lit (.int .i64 25), .lit (.int .i64 0), .lit (.int .i64 0), .lit (.int .i64 4), .lit (.int .i64 5), .lit (.int .i64 6), .lit (.int .i64 7), .lit (.int .i64 8), .lit (.int .i64 9), .lit (.int .i64 10), .lit (.int .i64 11), .lit (.int .i64 12), .lit (.int .i64 13), .lit (.int .i64 14)]

/-- 'evenhandlaw10.VerifyCompiled': WHATEVER THE INPUT: true; the input reads as it did. -/
def verifyCompiledSpec : ChangeSpec := { name := "verifyCompiled", fn := fun _ => fun
  | [d] => { results := [.lit (.bool true)], args := [d] }
  | _ => none }
def verifyCompiledRow : OpenClaim := { program := "ytahclmofioiibaadoor", sum := "0c58b8e17f6899606b981afd2556519085b82792d7b48e615924f1a4c1bdef85", func := "evenhand/evenhandlaw10.VerifyCompiled", spec := "verifyCompiled", unfollowed := true, recurses := true, named := ["evenhand/code.kinds", "evenhand/tree.ofStmts", "evenhand/tree.ofExprs", "evenhand/compile.same"], loops := true, apart := false, laid := [("evenhand/tree.ofExprs", laid_evenhand_tree_ofExprs), ("evenhand/tree.ofStmts", laid_evenhand_tree_ofStmts), ("evenhand/code.kinds", laid_evenhand_code_kinds), ("evenhand/compile.same", laid_evenhand_compile_same)] }
def VerifyCompiledSaid : Prop := verifyCompiledRow.holds Tryd.pinned (OpenSpec.ofChange verifyCompiledSpec)

/-- ITS FALSE NEIGHBOUR: 'it returns false'. Refute it at one input. -/
def verifyCompiledWrong : ChangeSpec := { name := "verifyCompiled", fn := fun _ => fun
  | [d] => { results := [.lit (.bool false)], args := [d] }
  | _ => none }
def VerifyCompiledWrongFalsely : Prop := verifyCompiledRow.holds Tryd.pinned (OpenSpec.ofChange verifyCompiledWrong)

/-- 'evenhandlaw10.VerifyDepths': WHATEVER THE INPUT: true; the input reads as it did. -/
def verifyDepthsSpec : ChangeSpec := { name := "verifyDepths", fn := fun _ => fun
  | [d1, d2] => { results := [.lit (.bool true)], args := [d1, d2] }
  | _ => none }
def verifyDepthsRow : OpenClaim := { program := "ytahclmofioiibaadoor", sum := "0c58b8e17f6899606b981afd2556519085b82792d7b48e615924f1a4c1bdef85", func := "evenhand/evenhandlaw10.VerifyDepths", spec := "verifyDepths", unfollowed := true, recurses := true, named := ["evenhand/code.kinds"], apart := false, laid := [("evenhand/code.kinds", laid_evenhand_code_kinds)] }
def VerifyDepthsSaid : Prop := verifyDepthsRow.holds Tryd.pinned (OpenSpec.ofChange verifyDepthsSpec)

/-- ITS FALSE NEIGHBOUR: 'it returns false'. Refute it at one input. -/
def verifyDepthsWrong : ChangeSpec := { name := "verifyDepths", fn := fun _ => fun
  | [d1, d2] => { results := [.lit (.bool false)], args := [d1, d2] }
  | _ => none }
def VerifyDepthsWrongFalsely : Prop := verifyDepthsRow.holds Tryd.pinned (OpenSpec.ofChange verifyDepthsWrong)

/-- 'evenhandlaw10.VerifyJumps': WHATEVER THE INPUT: true; the input reads as it did. -/
def verifyJumpsSpec : ChangeSpec := { name := "verifyJumps", fn := fun _ => fun
  | [d1, d2] => { results := [.lit (.bool true)], args := [d1, d2] }
  | _ => none }
def verifyJumpsRow : OpenClaim := { program := "ytahclmofioiibaadoor", sum := "0c58b8e17f6899606b981afd2556519085b82792d7b48e615924f1a4c1bdef85", func := "evenhand/evenhandlaw10.VerifyJumps", spec := "verifyJumps", unfollowed := true, recurses := true, named := ["evenhand/code.kinds"], apart := false, laid := [("evenhand/code.kinds", laid_evenhand_code_kinds)] }
def VerifyJumpsSaid : Prop := verifyJumpsRow.holds Tryd.pinned (OpenSpec.ofChange verifyJumpsSpec)

/-- ITS FALSE NEIGHBOUR: 'it returns false'. Refute it at one input. -/
def verifyJumpsWrong : ChangeSpec := { name := "verifyJumps", fn := fun _ => fun
  | [d1, d2] => { results := [.lit (.bool false)], args := [d1, d2] }
  | _ => none }
def VerifyJumpsWrongFalsely : Prop := verifyJumpsRow.holds Tryd.pinned (OpenSpec.ofChange verifyJumpsWrong)

/-- 'evenhandlaw10.VerifyMany': WHATEVER THE INPUT: true; the input reads as it did. -/
def verifyManySpec : ChangeSpec := { name := "verifyMany", fn := fun _ => fun
  | [d1, d2, d3, d4] => { results := [.lit (.bool true)], args := [d1, d2, d3, d4] }
  | _ => none }
def verifyManyRow : OpenClaim := { program := "ytahclmofioiibaadoor", sum := "0c58b8e17f6899606b981afd2556519085b82792d7b48e615924f1a4c1bdef85", func := "evenhand/evenhandlaw10.VerifyMany", spec := "verifyMany", unfollowed := true, recurses := true, named := ["evenhand/code.kinds"], apart := false, laid := [("evenhand/code.kinds", laid_evenhand_code_kinds)] }
def VerifyManySaid : Prop := verifyManyRow.holds Tryd.pinned (OpenSpec.ofChange verifyManySpec)

/-- ITS FALSE NEIGHBOUR: 'it returns false'. Refute it at one input. -/
def verifyManyWrong : ChangeSpec := { name := "verifyMany", fn := fun _ => fun
  | [d1, d2, d3, d4] => { results := [.lit (.bool false)], args := [d1, d2, d3, d4] }
  | _ => none }
def VerifyManyWrongFalsely : Prop := verifyManyRow.holds Tryd.pinned (OpenSpec.ofChange verifyManyWrong)

/- THE SECOND FORM. 'bulk': how many values and letters a reading holds, each counted each time it is reached (what is shared counts as often as it is met; a slice's spare places count too). A statement '..UptoSaid' is the law's where the arguments, and the package variables that the reading takes, are together of bulk at most 1048576: NARROWER than '..Said'. Prove '..Said' where nothing that the law and all that it calls make is longer than what came in: it says more and counts as full. Else prove '..UptoSaid'. A law counts once. -/
mutual
def uptoBulk {H : Type} : DataW H → Nat
  | .lit (.string bytes) => bytes.length + 1
  | .lit _ => 1
  | .nil => 1
  | .ptr d => uptoBulk d + 1
  | .slice elems spare => uptoBulkAll elems + uptoBulkAll spare + 1
  | .agg parts => uptoBulkAll parts + 1
  | .iface _ d => uptoBulk d + 1
  | .map entries => uptoBulkEntries entries + 1
  | .held _ => 1
def uptoBulkAll {H : Type} : List (DataW H) → Nat
  | [] => 0
  | d :: r => uptoBulk d + uptoBulkAll r
def uptoBulkEntries {H : Type} : List (Lit × DataW H) → Nat
  | [] => 0
  | x :: r => uptoBulkEntry x + uptoBulkEntries r
def uptoBulkEntry {H : Type} : Lit × DataW H → Nat
  | (.string bytes, d) => bytes.length + uptoBulk d + 1
  | (_, d) => uptoBulk d + 1
 end
def uptoSmall : (H : Type) → List (DataW H) → Bool := fun _ ds => decide (uptoBulkAll ds ≤ 1048576)
def OpenSpec.upto (s : _root_.Go.ChangeSpec) : _root_.Go.OpenSpec := { _root_.Go.OpenSpec.ofChange s with cond := some uptoSmall }

/-- 'evenhandlaw10.VerifyCompiled', WHERE WHAT IT READS IS OF BULK AT MOST 1048576: true; the input reads as it did. -/
def verifyCompiledUptoRow : OpenClaim := { program := "ytahclmofioiibaadoor", sum := "0c58b8e17f6899606b981afd2556519085b82792d7b48e615924f1a4c1bdef85", func := "evenhand/evenhandlaw10.VerifyCompiled", spec := "verifyCompiled", unfollowed := true, recurses := true, named := ["evenhand/code.kinds", "evenhand/tree.ofStmts", "evenhand/tree.ofExprs", "evenhand/compile.same"], loops := true, apart := false, laid := [("evenhand/tree.ofExprs", laid_evenhand_tree_ofExprs), ("evenhand/tree.ofStmts", laid_evenhand_tree_ofStmts), ("evenhand/code.kinds", laid_evenhand_code_kinds), ("evenhand/compile.same", laid_evenhand_compile_same)], narrowed := true }
def VerifyCompiledUptoSaid : Prop := verifyCompiledUptoRow.holds Tryd.pinned (OpenSpec.upto verifyCompiledSpec)

/-- 'evenhandlaw10.VerifyDepths', WHERE WHAT IT READS IS OF BULK AT MOST 1048576: true; the input reads as it did. -/
def verifyDepthsUptoRow : OpenClaim := { program := "ytahclmofioiibaadoor", sum := "0c58b8e17f6899606b981afd2556519085b82792d7b48e615924f1a4c1bdef85", func := "evenhand/evenhandlaw10.VerifyDepths", spec := "verifyDepths", unfollowed := true, recurses := true, named := ["evenhand/code.kinds"], apart := false, laid := [("evenhand/code.kinds", laid_evenhand_code_kinds)], narrowed := true }
def VerifyDepthsUptoSaid : Prop := verifyDepthsUptoRow.holds Tryd.pinned (OpenSpec.upto verifyDepthsSpec)

/-- 'evenhandlaw10.VerifyJumps', WHERE WHAT IT READS IS OF BULK AT MOST 1048576: true; the input reads as it did. -/
def verifyJumpsUptoRow : OpenClaim := { program := "ytahclmofioiibaadoor", sum := "0c58b8e17f6899606b981afd2556519085b82792d7b48e615924f1a4c1bdef85", func := "evenhand/evenhandlaw10.VerifyJumps", spec := "verifyJumps", unfollowed := true, recurses := true, named := ["evenhand/code.kinds"], apart := false, laid := [("evenhand/code.kinds", laid_evenhand_code_kinds)], narrowed := true }
def VerifyJumpsUptoSaid : Prop := verifyJumpsUptoRow.holds Tryd.pinned (OpenSpec.upto verifyJumpsSpec)

/-- 'evenhandlaw10.VerifyMany', WHERE WHAT IT READS IS OF BULK AT MOST 1048576: true; the input reads as it did. -/
def verifyManyUptoRow : OpenClaim := { program := "ytahclmofioiibaadoor", sum := "0c58b8e17f6899606b981afd2556519085b82792d7b48e615924f1a4c1bdef85", func := "evenhand/evenhandlaw10.VerifyMany", spec := "verifyMany", unfollowed := true, recurses := true, named := ["evenhand/code.kinds"], apart := false, laid := [("evenhand/code.kinds", laid_evenhand_code_kinds)], narrowed := true }
def VerifyManyUptoSaid : Prop := verifyManyUptoRow.holds Tryd.pinned (OpenSpec.upto verifyManySpec)

end Rows
end Go.Proofs.YtahclmofioiibaaDoor
