/-
  NARROWER THAN 'FOR EVERY INPUT', by the rows' own cells (each row's printed sentence says how): ScopeOnce: loops, laid · ScopeApart: loops, laid · ScopeFull: laid · ScopeOrder: laid · ScopeCalls: laid.
  DERIVED. THE GIVEN ROWS OF THIS SEAT. 5 by the template 'for every input the law returns true; each argument reads behind the call as it read before'; 0 by the template 'total and deterministic' (their statements: YtaajolemjgdfnaaDoorTotals.lean).
  GIVEN WITH THE SEED: the statements are not yours to turn. If you find one false, say at which input.
  Laid BY PROGRAM, IN A SANDBOX (cutbox-rows.mjs): the forced cells as the released guide's own fill.sh prints them over the translation b71029fecab355fb… (all of the seat's roots in one cut). By AI agents, Wed Nov 11 2026. No macro, syntax, notation, axiom, sorry.
-/
import Derived.Test.YtaajolemjgdfnaaDoorChecked
import GoSem.Claim
import GoSem.ClaimJoined
import GoSem.ClaimMapViews
import Derived.JoinedTies
import Derived.KernelRfl
namespace Go.Proofs.YtaajolemjgdfnaaDoor
/- THE CELL 'sum', in the pinned program and in every row, IS THE sha256 OF THE DUMP (.gsa) THAT YtaajolemjgdfnaaDoorProg.lean LOADS. Nothing in Lean hashes anything: it is a label: what it is worth is what the hold of that sum in a sandbox is worth. -/
noncomputable def Tryd.pinned : Pinned := { name := "ytaajolemjgdfnaadoor", sum := "b71029fecab355fb644dd0fc73b751346847d2ef69a0b02b2faaede24565cdba", checked := Tryd.checked }
namespace Rows
def none {H : Type} : Left H := { results := [], args := [] }

/- WHAT THE LISTED PACKAGE-LEVEL VARIABLES READ AS WHEN THE CALL BEGINS. Each datum BY PROGRAM (the guide's laid-datum.mjs) off the statement by which the dump's own 'gosem.cut.vars' lays the variable. In a bare row this is a premise. The card (YtaajolemjgdfnaaDoorCards.lean) ties it to the program's text. -/
def laid_evenhand_tree_ofExprs {H : Type} : DataW H := .agg [.agg [.lit (.bool false), .lit (.int .i64 0), .lit (.int .i64 0), .lit (.int .i64 0), .lit (.int .i64 0), .lit (.bool false), .lit (.bool false)], .agg [.lit (.bool false), .lit (.int .i64 0), .lit (.int .i64 9223372036854775807), .lit (.int .i64 0), .lit (.int .i64 0), .lit (.bool false), .lit (.bool false)], .agg [.lit (.bool true), .lit (.int .i64 0), .lit (.int .i64 0), .lit (.int .i64 0), .lit (.int .i64 0), .lit (.bool false), .lit (.bool false)], .agg [.lit (.bool false), .lit (.int .i64 0), .lit (.int .i64 0), .lit (.int .i64 0), .lit (.int .i64 0), .lit (.bool false), .lit (.bool false)], .agg [.lit (.bool true), .lit (.int .i64 0), .lit (.int .i64 0), .lit (.int .i64 1), .lit (.int .i64 1), .lit (.bool false), .lit (.bool false)], .agg [.lit (.bool true), .lit (.int .i64 0), .lit (.int .i64 0), .lit (.int .i64 0), .lit (.int .i64 8), .lit (.bool false), .lit (.bool false)], .agg [.lit (.bool false), .lit (.int .i64 0), .lit (.int .i64 0), .lit (.int .i64 1), .lit (.int .i64 1), .lit (.bool false), .lit (.bool false)], .agg [.lit (.bool false), .lit (.int .i64 0), .lit (.int .i64 0), .lit (.int .i64 1), .lit (.int .i64 1), .lit (.bool false), .lit (.bool false)], .agg [.lit (.bool false), .lit (.int .i64 0), .lit (.int .i64 0), .lit (.int .i64 2), .lit (.int .i64 2), .lit (.bool false), .lit (.bool false)], .agg [.lit (.bool false), .lit (.int .i64 0), .lit (.int .i64 0), .lit (.int .i64 2), .lit (.int .i64 2), .lit (.bool false), .lit (.bool false)], .agg [.lit (.bool false), .lit (.int .i64 0), .lit (.int .i64 0), .lit (.int .i64 2), .lit (.int .i64 2), .lit (.bool false), .lit (.bool false)], .agg [.lit (.bool false), .lit (.int .i64 0), .lit (.int .i64 0), .lit (.int .i64 2), .lit (.int .i64 2), .lit (.bool false), .lit (.bool false)], .agg [.lit (.bool false), .lit (.int .i64 0), .lit (.int .i64 0), .lit (.int .i64 2), .lit (.int .i64 2), .lit (.bool false), .lit (.bool false)], .agg [.lit (.bool false), .lit (.int .i64 0), .lit (.int .i64 0), .lit (.int .i64 2), .lit (.int .i64 2), .lit (.bool false), .lit (.bool false)], .agg [.lit (.bool false), .lit (.int .i64 0), .lit (.int .i64 0), .lit (.int .i64 2), .lit (.int .i64 2), .lit (.bool false), .lit (.bool false)], .agg [.lit (.bool false), .lit (.int .i64 0), .lit (.int .i64 0), .lit (.int .i64 2), .lit (.int .i64 2), .lit (.bool false), .lit (.bool false)], .agg [.lit (.bool false), .lit (.int .i64 0), .lit (.int .i64 0), .lit (.int .i64 2), .lit (.int .i64 2), .lit (.bool false), .lit (.bool false)]]
def laid_evenhand_tree_ofStmts {H : Type} : DataW H := .agg [.agg [.lit (.bool false), .lit (.int .i64 0), .lit (.int .i64 0), .lit (.int .i64 0), .lit (.int .i64 0), .lit (.bool false), .lit (.bool false)], .agg [.lit (.bool true), .lit (.int .i64 0), .lit (.int .i64 0), .lit (.int .i64 1), .lit (.int .i64 1), .lit (.bool false), .lit (.bool false)], .agg [.lit (.bool true), .lit (.int .i64 0), .lit (.int .i64 0), .lit (.int .i64 2), .lit (.int .i64 2), .lit (.bool false), .lit (.bool false)], .agg [.lit (.bool true), .lit (.int .i64 1), .lit (.int .i64 4096), .lit (.int .i64 0), .lit (.int .i64 0), .lit (.bool false), .lit (.bool false)], .agg [.lit (.bool true), .lit (.int .i64 0), .lit (.int .i64 0), .lit (.int .i64 0), .lit (.int .i64 0), .lit (.bool false), .lit (.bool false)], .agg [.lit (.bool false), .lit (.int .i64 0), .lit (.int .i64 0), .lit (.int .i64 1), .lit (.int .i64 1), .lit (.bool false), .lit (.bool false)], .agg [.lit (.bool false), .lit (.int .i64 0), .lit (.int .i64 0), .lit (.int .i64 1), .lit (.int .i64 1), .lit (.bool false), .lit (.bool false)], .agg [.lit (.bool false), .lit (.int .i64 0), .lit (.int .i64 0), .lit (.int .i64 1), .lit (.int .i64 1), .lit (.bool true), .lit (.bool true)], .agg [.lit (.bool false), .lit (.int .i64 0), .lit (.int .i64 0), .lit (.int .i64 1), .lit (.int .i64 1), .lit (.bool true), .lit (.bool false)], .agg [.lit (.bool false), .lit (.int .i64 0), .lit (.int .i64 0), .lit (.int .i64 1), .lit (.int .i64 1), .lit (.bool false), .lit (.bool false)]]

/-- 'evenhandlaw06.ScopeOnce': WHATEVER THE INPUT: true; the input reads as it did. -/
def scopeOnceSpec : ChangeSpec := { name := "scopeOnce", fn := fun _ => fun
  | [d] => { results := [.lit (.bool true)], args := [d] }
  | _ => none }
def scopeOnceRow : OpenClaim := { program := "ytaajolemjgdfnaadoor", sum := "b71029fecab355fb644dd0fc73b751346847d2ef69a0b02b2faaede24565cdba", func := "evenhand/evenhandlaw06.ScopeOnce", spec := "scopeOnce", inPlace := ["internal/bytealg.IndexByte", "internal/bytealg.IndexByteString"], unfollowed := true, recurses := true, named := ["evenhand/tree.ofStmts", "evenhand/tree.ofExprs"], loops := true, apart := false, laid := [("evenhand/tree.ofExprs", laid_evenhand_tree_ofExprs), ("evenhand/tree.ofStmts", laid_evenhand_tree_ofStmts)] }
def ScopeOnceSaid : Prop := scopeOnceRow.holds Tryd.pinned (OpenSpec.ofChange scopeOnceSpec)

/-- ITS FALSE NEIGHBOUR: 'it returns false'. Refute it at one input. -/
def scopeOnceWrong : ChangeSpec := { name := "scopeOnce", fn := fun _ => fun
  | [d] => { results := [.lit (.bool false)], args := [d] }
  | _ => none }
def ScopeOnceWrongFalsely : Prop := scopeOnceRow.holds Tryd.pinned (OpenSpec.ofChange scopeOnceWrong)

/-- 'evenhandlaw06.ScopeApart': WHATEVER THE INPUT: true; the input reads as it did. -/
def scopeApartSpec : ChangeSpec := { name := "scopeApart", fn := fun _ => fun
  | [d1, d2] => { results := [.lit (.bool true)], args := [d1, d2] }
  | _ => none }
def scopeApartRow : OpenClaim := { program := "ytaajolemjgdfnaadoor", sum := "b71029fecab355fb644dd0fc73b751346847d2ef69a0b02b2faaede24565cdba", func := "evenhand/evenhandlaw06.ScopeApart", spec := "scopeApart", inPlace := ["internal/bytealg.IndexByte", "internal/bytealg.IndexByteString"], unfollowed := true, recurses := true, named := ["evenhand/tree.ofStmts", "evenhand/tree.ofExprs"], loops := true, apart := false, laid := [("evenhand/tree.ofExprs", laid_evenhand_tree_ofExprs), ("evenhand/tree.ofStmts", laid_evenhand_tree_ofStmts)] }
def ScopeApartSaid : Prop := scopeApartRow.holds Tryd.pinned (OpenSpec.ofChange scopeApartSpec)

/-- ITS FALSE NEIGHBOUR: 'it returns false'. Refute it at one input. -/
def scopeApartWrong : ChangeSpec := { name := "scopeApart", fn := fun _ => fun
  | [d1, d2] => { results := [.lit (.bool false)], args := [d1, d2] }
  | _ => none }
def ScopeApartWrongFalsely : Prop := scopeApartRow.holds Tryd.pinned (OpenSpec.ofChange scopeApartWrong)

/-- 'evenhandlaw06.ScopeFull': WHATEVER THE INPUT: true; the input reads as it did. -/
def scopeFullSpec : ChangeSpec := { name := "scopeFull", fn := fun _ => fun
  | [d1, d2, d3] => { results := [.lit (.bool true)], args := [d1, d2, d3] }
  | _ => none }
def scopeFullRow : OpenClaim := { program := "ytaajolemjgdfnaadoor", sum := "b71029fecab355fb644dd0fc73b751346847d2ef69a0b02b2faaede24565cdba", func := "evenhand/evenhandlaw06.ScopeFull", spec := "scopeFull", inPlace := ["internal/bytealg.IndexByte", "internal/bytealg.IndexByteString"], unfollowed := true, recurses := true, named := ["evenhand/tree.ofStmts", "evenhand/tree.ofExprs"], apart := false, laid := [("evenhand/tree.ofExprs", laid_evenhand_tree_ofExprs), ("evenhand/tree.ofStmts", laid_evenhand_tree_ofStmts)] }
def ScopeFullSaid : Prop := scopeFullRow.holds Tryd.pinned (OpenSpec.ofChange scopeFullSpec)

/-- ITS FALSE NEIGHBOUR: 'it returns false'. Refute it at one input. -/
def scopeFullWrong : ChangeSpec := { name := "scopeFull", fn := fun _ => fun
  | [d1, d2, d3] => { results := [.lit (.bool false)], args := [d1, d2, d3] }
  | _ => none }
def ScopeFullWrongFalsely : Prop := scopeFullRow.holds Tryd.pinned (OpenSpec.ofChange scopeFullWrong)

/-- 'evenhandlaw06.ScopeOrder': WHATEVER THE INPUT: true; the input reads as it did. -/
def scopeOrderSpec : ChangeSpec := { name := "scopeOrder", fn := fun _ => fun
  | [d] => { results := [.lit (.bool true)], args := [d] }
  | _ => none }
def scopeOrderRow : OpenClaim := { program := "ytaajolemjgdfnaadoor", sum := "b71029fecab355fb644dd0fc73b751346847d2ef69a0b02b2faaede24565cdba", func := "evenhand/evenhandlaw06.ScopeOrder", spec := "scopeOrder", inPlace := ["internal/bytealg.IndexByte", "internal/bytealg.IndexByteString"], unfollowed := true, recurses := true, named := ["evenhand/tree.ofStmts", "evenhand/tree.ofExprs"], apart := false, laid := [("evenhand/tree.ofExprs", laid_evenhand_tree_ofExprs), ("evenhand/tree.ofStmts", laid_evenhand_tree_ofStmts)] }
def ScopeOrderSaid : Prop := scopeOrderRow.holds Tryd.pinned (OpenSpec.ofChange scopeOrderSpec)

/-- ITS FALSE NEIGHBOUR: 'it returns false'. Refute it at one input. -/
def scopeOrderWrong : ChangeSpec := { name := "scopeOrder", fn := fun _ => fun
  | [d] => { results := [.lit (.bool false)], args := [d] }
  | _ => none }
def ScopeOrderWrongFalsely : Prop := scopeOrderRow.holds Tryd.pinned (OpenSpec.ofChange scopeOrderWrong)

/-- 'evenhandlaw06.ScopeCalls': WHATEVER THE INPUT: true; the input reads as it did. -/
def scopeCallsSpec : ChangeSpec := { name := "scopeCalls", fn := fun _ => fun
  | [d1, d2, d3, d4] => { results := [.lit (.bool true)], args := [d1, d2, d3, d4] }
  | _ => none }
def scopeCallsRow : OpenClaim := { program := "ytaajolemjgdfnaadoor", sum := "b71029fecab355fb644dd0fc73b751346847d2ef69a0b02b2faaede24565cdba", func := "evenhand/evenhandlaw06.ScopeCalls", spec := "scopeCalls", inPlace := ["internal/bytealg.IndexByte", "internal/bytealg.IndexByteString"], unfollowed := true, recurses := true, named := ["evenhand/tree.ofStmts", "evenhand/tree.ofExprs"], apart := false, laid := [("evenhand/tree.ofExprs", laid_evenhand_tree_ofExprs), ("evenhand/tree.ofStmts", laid_evenhand_tree_ofStmts)] }
def ScopeCallsSaid : Prop := scopeCallsRow.holds Tryd.pinned (OpenSpec.ofChange scopeCallsSpec)

/-- ITS FALSE NEIGHBOUR: 'it returns false'. Refute it at one input. -/
def scopeCallsWrong : ChangeSpec := { name := "scopeCalls", fn := fun _ => fun
  | [d1, d2, d3, d4] => { results := [.lit (.bool false)], args := [d1, d2, d3, d4] }
  | _ => none }
def ScopeCallsWrongFalsely : Prop := scopeCallsRow.holds Tryd.pinned (OpenSpec.ofChange scopeCallsWrong)

/- THE SECOND FORM. 'bulk': how many values and letters a reading holds, each counted each time it is reached (what is shared counts as often as it is met; a slice's spare places count too). A statement '..UptoSaid' is the law's where the arguments, and the package variables that the reading takes, are together of bulk at most 1048576: NARROWER than '..Said'. Prove '..Said' where nothing that the law and all that it calls make is longer than what came in: it says more and counts as full. Else prove '..UptoSaid'. A law counts once. -/
mutual
def uptoBulk {H : Type} : DataW H → Nat
  | .lit (.string bytes) => bytes.length + 1
  | .lit _ => 1
  | .nil => 1
  | .ptr d => uptoBulk d + 1
  | .slice elems spare => uptoBulkAll elems + uptoBulkAll spare + 1
  | .agg parts => uptoBulkAll parts + 1
  | .iface _ d => uptoBulk d + 1
  | .map entries => uptoBulkEntries entries + 1
  | .held _ => 1
def uptoBulkAll {H : Type} : List (DataW H) → Nat
  | [] => 0
  | d :: r => uptoBulk d + uptoBulkAll r
def uptoBulkEntries {H : Type} : List (Lit × DataW H) → Nat
  | [] => 0
  | x :: r => uptoBulkEntry x + uptoBulkEntries r
def uptoBulkEntry {H : Type} : Lit × DataW H → Nat
  | (.string bytes, d) => bytes.length + uptoBulk d + 1
  | (_, d) => uptoBulk d + 1
 end
def uptoSmall : (H : Type) → List (DataW H) → Bool := fun _ ds => decide (uptoBulkAll ds ≤ 1048576)
def OpenSpec.upto (s : _root_.Go.ChangeSpec) : _root_.Go.OpenSpec := { _root_.Go.OpenSpec.ofChange s with cond := some uptoSmall }

/-- 'evenhandlaw06.ScopeOnce', WHERE WHAT IT READS IS OF BULK AT MOST 1048576: true; the input reads as it did. -/
def scopeOnceUptoRow : OpenClaim := { program := "ytaajolemjgdfnaadoor", sum := "b71029fecab355fb644dd0fc73b751346847d2ef69a0b02b2faaede24565cdba", func := "evenhand/evenhandlaw06.ScopeOnce", spec := "scopeOnce", inPlace := ["internal/bytealg.IndexByte", "internal/bytealg.IndexByteString"], unfollowed := true, recurses := true, named := ["evenhand/tree.ofStmts", "evenhand/tree.ofExprs"], loops := true, apart := false, laid := [("evenhand/tree.ofExprs", laid_evenhand_tree_ofExprs), ("evenhand/tree.ofStmts", laid_evenhand_tree_ofStmts)], narrowed := true }
def ScopeOnceUptoSaid : Prop := scopeOnceUptoRow.holds Tryd.pinned (OpenSpec.upto scopeOnceSpec)

/-- 'evenhandlaw06.ScopeApart', WHERE WHAT IT READS IS OF BULK AT MOST 1048576: true; the input reads as it did. -/
def scopeApartUptoRow : OpenClaim := { program := "ytaajolemjgdfnaadoor", sum := "b71029fecab355fb644dd0fc73b751346847d2ef69a0b02b2faaede24565cdba", func := "evenhand/evenhandlaw06.ScopeApart", spec := "scopeApart", inPlace := ["internal/bytealg.IndexByte", "internal/bytealg.IndexByteString"], unfollowed := true, recurses := true, named := ["evenhand/tree.ofStmts", "evenhand/tree.ofExprs"], loops := true, apart := false, laid := [("evenhand/tree.ofExprs", laid_evenhand_tree_ofExprs), ("evenhand/tree.ofStmts", laid_evenhand_tree_ofStmts)], narrowed := true }
def ScopeApartUptoSaid : Prop := scopeApartUptoRow.holds Tryd.pinned (OpenSpec.upto scopeApartSpec)

/-- 'evenhandlaw06.ScopeFull', WHERE WHAT IT READS IS OF BULK AT MOST 1048576: true; the input reads as it did. -/
def scopeFullUptoRow : OpenClaim := { program := "ytaajolemjgdfnaadoor", sum := "b71029fecab355fb644dd0fc73b751346847d2ef69a0b02b2faaede24565cdba", func := "evenhand/evenhandlaw06.ScopeFull", spec := "scopeFull", inPlace := ["internal/bytealg.IndexByte", "internal/bytealg.IndexByteString"], unfollowed := true, recurses := true, named := ["evenhand/tree.ofStmts", "evenhand/tree.ofExprs"], apart := false, laid := [("evenhand/tree.ofExprs", laid_evenhand_tree_ofExprs), ("evenhand/tree.ofStmts", laid_evenhand_tree_ofStmts)], narrowed := true }
def ScopeFullUptoSaid : Prop := scopeFullUptoRow.holds Tryd.pinned (OpenSpec.upto scopeFullSpec)

/-- 'evenhandlaw06.ScopeOrder', WHERE WHAT IT READS IS OF BULK AT MOST 1048576: true; the input reads as it did. -/
def scopeOrderUptoRow : OpenClaim := { program := "ytaajolemjgdfnaadoor", sum := "b71029fecab355fb644dd0fc73b751346847d2ef69a0b02b2faaede24565cdba", func := "evenhand/evenhandlaw06.ScopeOrder", spec := "scopeOrder", inPlace := ["internal/bytealg.IndexByte", "internal/bytealg.IndexByteString"], unfollowed := true, recurses := true, named := ["evenhand/tree.ofStmts", "evenhand/tree.ofExprs"], apart := false, laid := [("evenhand/tree.ofExprs", laid_evenhand_tree_ofExprs), ("evenhand/tree.ofStmts", laid_evenhand_tree_ofStmts)], narrowed := true }
def ScopeOrderUptoSaid : Prop := scopeOrderUptoRow.holds Tryd.pinned (OpenSpec.upto scopeOrderSpec)

/-- 'evenhandlaw06.ScopeCalls', WHERE WHAT IT READS IS OF BULK AT MOST 1048576: true; the input reads as it did. -/
def scopeCallsUptoRow : OpenClaim := { program := "ytaajolemjgdfnaadoor", sum := "b71029fecab355fb644dd0fc73b751346847d2ef69a0b02b2faaede24565cdba", func := "evenhand/evenhandlaw06.ScopeCalls", spec := "scopeCalls", inPlace := ["internal/bytealg.IndexByte", "internal/bytealg.IndexByteString"], unfollowed := true, recurses := true, named := ["evenhand/tree.ofStmts", "evenhand/tree.ofExprs"], apart := false, laid := [("evenhand/tree.ofExprs", laid_evenhand_tree_ofExprs), ("evenhand/tree.ofStmts", laid_evenhand_tree_ofStmts)], narrowed := true }
def ScopeCallsUptoSaid : Prop := scopeCallsUptoRow.holds Tryd.pinned (OpenSpec.upto scopeCallsSpec)

end Rows
end Go.Proofs.YtaajolemjgdfnaaDoor
