/-
  NARROWER THAN 'FOR EVERY INPUT', by the rows' own cells (each row's printed sentence says how): CanonTells: loops, laid · CanonBack: loops, laid · CanonExprs: loops, laid · CanonLines: loops, laid · CanonTokens: loops, laid · CanonBodies: loops, laid · CanonRows: loops, laid.
  DERIVED. THE GIVEN ROWS OF THIS SEAT. 7 by the template 'for every input the law returns true; each argument reads behind the call as it read before'; 0 by the template 'total and deterministic' (their statements: YtppagjhmlgkamaaGreatDoorTotals.lean).
  GIVEN WITH THE SEED: the statements are not yours to turn. If you find one false, say at which input.
  Laid BY PROGRAM, IN A SANDBOX (cutbox-rows.mjs): the forced cells as the released guide's own fill.sh prints them over the translation 929f3430d76d6dc2… (all of the seat's roots in one cut). By AI agents, Wed Nov 11 2026. No macro, syntax, notation, axiom, sorry.
-/
import Derived.Test.YtppagjhmlgkamaaGreatDoorChecked
import GoSem.Claim
import GoSem.ClaimJoined
import GoSem.ClaimMapViews
import Derived.JoinedTies
import Derived.KernelRfl
namespace Go.Proofs.YtppagjhmlgkamaaGreatDoor
/- THE CELL 'sum', in the pinned program and in every row, IS THE sha256 OF THE DUMP (.gsa) THAT YtppagjhmlgkamaaGreatDoorProg.lean LOADS. Nothing in Lean hashes anything: it is a label: what it is worth is what the hold of that sum in a sandbox is worth. -/
noncomputable def Tryz.pinned : Pinned := { name := "ytppagjhmlgkamaagreatdoor", sum := "929f3430d76d6dc2ee85a98c02ce8bb7a4c0098d4adc26db10b9718caa3fc2f5", checked := Tryz.checked }
namespace Rows
def none {H : Type} : Left H := { results := [], args := [] }

/- WHAT THE LISTED PACKAGE-LEVEL VARIABLES READ AS WHEN THE CALL BEGINS. Each datum BY PROGRAM (the guide's laid-datum.mjs) off the statement by which the dump's own 'gosem.cut.vars' lays the variable. In a bare row this is a premise. The card (YtppagjhmlgkamaaGreatDoorCards.lean) ties it to the program's text. -/
def laid_math_bits_deBruijn32tab {H : Type} : DataW H := .agg [.lit (.int .u8 0), .lit (.int .u8 1), .lit (.int .u8 28), .lit (.int .u8 2), .lit (.int .u8 29), .lit (.int .u8 14), .lit (.int .u8 24), .lit (.int .u8 3), .lit (.int .u8 30), .lit (.int .u8 22), .lit (.int .u8 20), .lit (.int .u8 15), .lit (.int .u8 25), .lit (.int .u8 17), .lit (.int .u8 4), .lit (.int .u8 8), .lit (.int .u8 31), .lit (.int .u8 27), .lit (.int .u8 13), .lit (.int .u8 23), .lit (.int .u8 21), .lit (.int .u8 19), .lit (.int .u8 16), .lit (.int .u8 7), .lit (.int .u8 26), .lit (.int .u8 12), .lit (.int .u8 18), .lit (.int .u8 6), .lit (.int .u8 11), .lit (.int .u8 5), .lit (.int .u8 10), .lit (.int .u8 9)]
def laid_math_bits_deBruijn64tab {H : Type} : DataW H := .agg [.lit (.int .u8 0), .lit (.int .u8 1), .lit (.int .u8 56), .lit (.int .u8 2), .lit (.int .u8 57), .lit (.int .u8 49), .lit (.int .u8 28), .lit (.int .u8 3), .lit (.int .u8 61), .lit (.int .u8 58), .lit (.int .u8 42), .lit (.int .u8 50), .lit (.int .u8 38), .lit (.int .u8 29), .lit (.int .u8 17), .lit (.int .u8 4), .lit (.int .u8 62), .lit (.int .u8 47), .lit (.int .u8 59), .lit (.int .u8 36), .lit (.int .u8 45), .lit (.int .u8 43), .lit (.int .u8 51), .lit (.int .u8 22), .lit (.int .u8 53), .lit (.int .u8 39), .lit (.int .u8 33), .lit (.int .u8 30), .lit (.int .u8 24), .lit (.int .u8 18), .lit (.int .u8 12), .lit (.int .u8 5), .lit (.int .u8 63), .lit (.int .u8 55), .lit (.int .u8 48), .lit (.int .u8 27), .lit (.int .u8 60), .lit (.int .u8 41), .lit (.int .u8 37), .lit (.int .u8 16), .lit (.int .u8 46), .lit (.int .u8 35), .lit (.int .u8 44), .lit (.int .u8 21), .lit (.int .u8 52), .lit (.int .u8 32), .lit (.int .u8 23), .lit (.int .u8 11), .lit (.int .u8 54), .lit (.int .u8 26), .lit (.int .u8 40), .lit (.int .u8 15), .lit (.int .u8 34), .lit (.int .u8 20), .lit (.int .u8 31), .lit (.int .u8 10), .lit (.int .u8 25), .lit (.int .u8 14), .lit (.int .u8 19), .lit (.int .u8 9), .lit (.int .u8 13), .lit (.int .u8 8), .lit (.int .u8 7), .lit (.int .u8 6)]
def laid_internal_strconv_uint64pow10 {H : Type} : DataW H := .agg [.lit (.int .u64 1), .lit (.int .u64 10), .lit (.int .u64 100), .lit (.int .u64 1000), .lit (.int .u64 10000), .lit (.int .u64 100000), .lit (.int .u64 1000000), .lit (.int .u64 10000000), .lit (.int .u64 100000000), .lit (.int .u64 1000000000), .lit (.int .u64 10000000000), .lit (.int .u64 100000000000), .lit (.int .u64 1000000000000), .lit (.int .u64 10000000000000), .lit (.int .u64 100000000000000), .lit (.int .u64 1000000000000000), .lit (.int .u64 10000000000000000), .lit (.int .u64 100000000000000000), .lit (.int .u64 1000000000000000000), .lit (.int .u64 10000000000000000000)]
def laid_evenhand_tree_ofExprs {H : Type} : DataW H := .agg [.agg [.lit (.bool false), .lit (.int .i64 0), .lit (.int .i64 0), .lit (.int .i64 0), .lit (.int .i64 0), .lit (.bool false), .lit (.bool false)], .agg [.lit (.bool false), .lit (.int .i64 0), .lit (.int .i64 9223372036854775807), .lit (.int .i64 0), .lit (.int .i64 0), .lit (.bool false), .lit (.bool false)], .agg [.lit (.bool true), .lit (.int .i64 0), .lit (.int .i64 0), .lit (.int .i64 0), .lit (.int .i64 0), .lit (.bool false), .lit (.bool false)], .agg [.lit (.bool false), .lit (.int .i64 0), .lit (.int .i64 0), .lit (.int .i64 0), .lit (.int .i64 0), .lit (.bool false), .lit (.bool false)], .agg [.lit (.bool true), .lit (.int .i64 0), .lit (.int .i64 0), .lit (.int .i64 1), .lit (.int .i64 1), .lit (.bool false), .lit (.bool false)], .agg [.lit (.bool true), .lit (.int .i64 0), .lit (.int .i64 0), .lit (.int .i64 0), .lit (.int .i64 8), .lit (.bool false), .lit (.bool false)], .agg [.lit (.bool false), .lit (.int .i64 0), .lit (.int .i64 0), .lit (.int .i64 1), .lit (.int .i64 1), .lit (.bool false), .lit (.bool false)], .agg [.lit (.bool false), .lit (.int .i64 0), .lit (.int .i64 0), .lit (.int .i64 1), .lit (.int .i64 1), .lit (.bool false), .lit (.bool false)], .agg [.lit (.bool false), .lit (.int .i64 0), .lit (.int .i64 0), .lit (.int .i64 2), .lit (.int .i64 2), .lit (.bool false), .lit (.bool false)], .agg [.lit (.bool false), .lit (.int .i64 0), .lit (.int .i64 0), .lit (.int .i64 2), .lit (.int .i64 2), .lit (.bool false), .lit (.bool false)], .agg [.lit (.bool false), .lit (.int .i64 0), .lit (.int .i64 0), .lit (.int .i64 2), .lit (.int .i64 2), .lit (.bool false), .lit (.bool false)], .agg [.lit (.bool false), .lit (.int .i64 0), .lit (.int .i64 0), .lit (.int .i64 2), .lit (.int .i64 2), .lit (.bool false), .lit (.bool false)], .agg [.lit (.bool false), .lit (.int .i64 0), .lit (.int .i64 0), .lit (.int .i64 2), .lit (.int .i64 2), .lit (.bool false), .lit (.bool false)], .agg [.lit (.bool false), .lit (.int .i64 0), .lit (.int .i64 0), .lit (.int .i64 2), .lit (.int .i64 2), .lit (.bool false), .lit (.bool false)], .agg [.lit (.bool false), .lit (.int .i64 0), .lit (.int .i64 0), .lit (.int .i64 2), .lit (.int .i64 2), .lit (.bool false), .lit (.bool false)], .agg [.lit (.bool false), .lit (.int .i64 0), .lit (.int .i64 0), .lit (.int .i64 2), .lit (.int .i64 2), .lit (.bool false), .lit (.bool false)], .agg [.lit (.bool false), .lit (.int .i64 0), .lit (.int .i64 0), .lit (.int .i64 2), .lit (.int .i64 2), .lit (.bool false), .lit (.bool false)]]
def laid_evenhand_tree_ofStmts {H : Type} : DataW H := .agg [.agg [.lit (.bool false), .lit (.int .i64 0), .lit (.int .i64 0), .lit (.int .i64 0), .lit (.int .i64 0), .lit (.bool false), .lit (.bool false)], .agg [.lit (.bool true), .lit (.int .i64 0), .lit (.int .i64 0), .lit (.int .i64 1), .lit (.int .i64 1), .lit (.bool false), .lit (.bool false)], .agg [.lit (.bool true), .lit (.int .i64 0), .lit (.int .i64 0), .lit (.int .i64 2), .lit (.int .i64 2), .lit (.bool false), .lit (.bool false)], .agg [.lit (.bool true), .lit (.int .i64 1), .lit (.int .i64 4096), .lit (.int .i64 0), .lit (.int .i64 0), .lit (.bool false), .lit (.bool false)], .agg [.lit (.bool true), .lit (.int .i64 0), .lit (.int .i64 0), .lit (.int .i64 0), .lit (.int .i64 0), .lit (.bool false), .lit (.bool false)], .agg [.lit (.bool false), .lit (.int .i64 0), .lit (.int .i64 0), .lit (.int .i64 1), .lit (.int .i64 1), .lit (.bool false), .lit (.bool false)], .agg [.lit (.bool false), .lit (.int .i64 0), .lit (.int .i64 0), .lit (.int .i64 1), .lit (.int .i64 1), .lit (.bool false), .lit (.bool false)], .agg [.lit (.bool false), .lit (.int .i64 0), .lit (.int .i64 0), .lit (.int .i64 1), .lit (.int .i64 1), .lit (.bool true), .lit (.bool true)], .agg [.lit (.bool false), .lit (.int .i64 0), .lit (.int .i64 0), .lit (.int .i64 1), .lit (.int .i64 1), .lit (.bool true), .lit (.bool false)], .agg [.lit (.bool false), .lit (.int .i64 0), .lit (.int .i64 0), .lit (.int .i64 1), .lit (.int .i64 1), .lit (.bool false), .lit (.bool false)]]
def laid_evenhand_canon_between {H : Type} : DataW H := .agg [.lit (.string []), .lit (.string []), .lit (.string []), .lit (.string []), .lit (.string []), .lit (.string []), .lit (.string []), .lit (.string []), .lit (.string [32, 43, 32]), .lit (.string [32, 45, 32]), .lit (.string [32, 42, 32]), .lit (.string [32, 47, 32]), .lit (.string [32, 37, 32]), .lit (.string [32, 60, 32]), .lit (.string [32, 61, 61, 32]), .lit (.string [32, 38, 32]), .lit (.string [32, 124, 32])]

/-- 'evenhandlaw05.CanonTells': WHATEVER THE INPUT: true; the input reads as it did. -/
def canonTellsSpec : ChangeSpec := { name := "canonTells", fn := fun _ => fun
  | [d] => { results := [.lit (.bool true)], args := [d] }
  | _ => none }
def canonTellsRow : OpenClaim := { program := "ytppagjhmlgkamaagreatdoor", sum := "929f3430d76d6dc2ee85a98c02ce8bb7a4c0098d4adc26db10b9718caa3fc2f5", func := "evenhand/evenhandlaw05.CanonTells", spec := "canonTells", inPlace := ["internal/bytealg.IndexByte", "internal/bytealg.IndexByteString", "internal/abi.NoEscape", "internal/bytealg.MakeNoZero"], unfollowed := true, recurses := true, named := ["evenhand/tree.ofStmts", "evenhand/tree.ofExprs", "evenhand/canon.between", "internal/strconv.uint64pow10", "math/bits.deBruijn32tab", "math/bits.deBruijn64tab"], loops := true, apart := false, laid := [("math/bits.deBruijn32tab", laid_math_bits_deBruijn32tab), ("math/bits.deBruijn64tab", laid_math_bits_deBruijn64tab), ("internal/strconv.uint64pow10", laid_internal_strconv_uint64pow10), ("evenhand/tree.ofExprs", laid_evenhand_tree_ofExprs), ("evenhand/tree.ofStmts", laid_evenhand_tree_ofStmts), ("evenhand/canon.between", laid_evenhand_canon_between)] }
def CanonTellsSaid : Prop := canonTellsRow.holds Tryz.pinned (OpenSpec.ofChange canonTellsSpec)

/-- ITS FALSE NEIGHBOUR: 'it returns false'. Refute it at one input. -/
def canonTellsWrong : ChangeSpec := { name := "canonTells", fn := fun _ => fun
  | [d] => { results := [.lit (.bool false)], args := [d] }
  | _ => none }
def CanonTellsWrongFalsely : Prop := canonTellsRow.holds Tryz.pinned (OpenSpec.ofChange canonTellsWrong)

/-- 'evenhandlaw05.CanonBack': WHATEVER THE INPUT: true; the input reads as it did. -/
def canonBackSpec : ChangeSpec := { name := "canonBack", fn := fun _ => fun
  | [d1, d2] => { results := [.lit (.bool true)], args := [d1, d2] }
  | _ => none }
def canonBackRow : OpenClaim := { program := "ytppagjhmlgkamaagreatdoor", sum := "929f3430d76d6dc2ee85a98c02ce8bb7a4c0098d4adc26db10b9718caa3fc2f5", func := "evenhand/evenhandlaw05.CanonBack", spec := "canonBack", inPlace := ["internal/bytealg.IndexByte", "internal/bytealg.IndexByteString", "internal/abi.NoEscape", "internal/bytealg.MakeNoZero"], unfollowed := true, recurses := true, named := ["evenhand/tree.ofStmts", "evenhand/tree.ofExprs", "evenhand/canon.between", "internal/strconv.uint64pow10", "math/bits.deBruijn32tab", "math/bits.deBruijn64tab"], loops := true, apart := false, laid := [("math/bits.deBruijn32tab", laid_math_bits_deBruijn32tab), ("math/bits.deBruijn64tab", laid_math_bits_deBruijn64tab), ("internal/strconv.uint64pow10", laid_internal_strconv_uint64pow10), ("evenhand/tree.ofExprs", laid_evenhand_tree_ofExprs), ("evenhand/tree.ofStmts", laid_evenhand_tree_ofStmts), ("evenhand/canon.between", laid_evenhand_canon_between)] }
def CanonBackSaid : Prop := canonBackRow.holds Tryz.pinned (OpenSpec.ofChange canonBackSpec)

/-- ITS FALSE NEIGHBOUR: 'it returns false'. Refute it at one input. -/
def canonBackWrong : ChangeSpec := { name := "canonBack", fn := fun _ => fun
  | [d1, d2] => { results := [.lit (.bool false)], args := [d1, d2] }
  | _ => none }
def CanonBackWrongFalsely : Prop := canonBackRow.holds Tryz.pinned (OpenSpec.ofChange canonBackWrong)

/-- 'evenhandlaw05.CanonExprs': WHATEVER THE INPUT: true; the input reads as it did. -/
def canonExprsSpec : ChangeSpec := { name := "canonExprs", fn := fun _ => fun
  | [d] => { results := [.lit (.bool true)], args := [d] }
  | _ => none }
def canonExprsRow : OpenClaim := { program := "ytppagjhmlgkamaagreatdoor", sum := "929f3430d76d6dc2ee85a98c02ce8bb7a4c0098d4adc26db10b9718caa3fc2f5", func := "evenhand/evenhandlaw05.CanonExprs", spec := "canonExprs", inPlace := ["internal/bytealg.IndexByte", "internal/bytealg.IndexByteString", "internal/abi.NoEscape", "internal/bytealg.MakeNoZero"], unfollowed := true, recurses := true, named := ["evenhand/tree.ofStmts", "evenhand/tree.ofExprs", "evenhand/canon.between", "internal/strconv.uint64pow10", "math/bits.deBruijn32tab", "math/bits.deBruijn64tab"], loops := true, apart := false, laid := [("math/bits.deBruijn32tab", laid_math_bits_deBruijn32tab), ("math/bits.deBruijn64tab", laid_math_bits_deBruijn64tab), ("internal/strconv.uint64pow10", laid_internal_strconv_uint64pow10), ("evenhand/tree.ofExprs", laid_evenhand_tree_ofExprs), ("evenhand/tree.ofStmts", laid_evenhand_tree_ofStmts), ("evenhand/canon.between", laid_evenhand_canon_between)] }
def CanonExprsSaid : Prop := canonExprsRow.holds Tryz.pinned (OpenSpec.ofChange canonExprsSpec)

/-- ITS FALSE NEIGHBOUR: 'it returns false'. Refute it at one input. -/
def canonExprsWrong : ChangeSpec := { name := "canonExprs", fn := fun _ => fun
  | [d] => { results := [.lit (.bool false)], args := [d] }
  | _ => none }
def CanonExprsWrongFalsely : Prop := canonExprsRow.holds Tryz.pinned (OpenSpec.ofChange canonExprsWrong)

/-- 'evenhandlaw05.CanonLines': WHATEVER THE INPUT: true; the input reads as it did. -/
def canonLinesSpec : ChangeSpec := { name := "canonLines", fn := fun _ => fun
  | [d] => { results := [.lit (.bool true)], args := [d] }
  | _ => none }
def canonLinesRow : OpenClaim := { program := "ytppagjhmlgkamaagreatdoor", sum := "929f3430d76d6dc2ee85a98c02ce8bb7a4c0098d4adc26db10b9718caa3fc2f5", func := "evenhand/evenhandlaw05.CanonLines", spec := "canonLines", inPlace := ["internal/bytealg.IndexByte", "internal/bytealg.IndexByteString", "internal/abi.NoEscape", "internal/bytealg.MakeNoZero"], unfollowed := true, recurses := true, named := ["evenhand/tree.ofStmts", "evenhand/tree.ofExprs", "evenhand/canon.between", "internal/strconv.uint64pow10", "math/bits.deBruijn32tab", "math/bits.deBruijn64tab"], loops := true, apart := false, laid := [("math/bits.deBruijn32tab", laid_math_bits_deBruijn32tab), ("math/bits.deBruijn64tab", laid_math_bits_deBruijn64tab), ("internal/strconv.uint64pow10", laid_internal_strconv_uint64pow10), ("evenhand/tree.ofExprs", laid_evenhand_tree_ofExprs), ("evenhand/tree.ofStmts", laid_evenhand_tree_ofStmts), ("evenhand/canon.between", laid_evenhand_canon_between)] }
def CanonLinesSaid : Prop := canonLinesRow.holds Tryz.pinned (OpenSpec.ofChange canonLinesSpec)

/-- ITS FALSE NEIGHBOUR: 'it returns false'. Refute it at one input. -/
def canonLinesWrong : ChangeSpec := { name := "canonLines", fn := fun _ => fun
  | [d] => { results := [.lit (.bool false)], args := [d] }
  | _ => none }
def CanonLinesWrongFalsely : Prop := canonLinesRow.holds Tryz.pinned (OpenSpec.ofChange canonLinesWrong)

/-- 'evenhandlaw05.CanonTokens': WHATEVER THE INPUT: true; the input reads as it did. -/
def canonTokensSpec : ChangeSpec := { name := "canonTokens", fn := fun _ => fun
  | [d1, d2] => { results := [.lit (.bool true)], args := [d1, d2] }
  | _ => none }
def canonTokensRow : OpenClaim := { program := "ytppagjhmlgkamaagreatdoor", sum := "929f3430d76d6dc2ee85a98c02ce8bb7a4c0098d4adc26db10b9718caa3fc2f5", func := "evenhand/evenhandlaw05.CanonTokens", spec := "canonTokens", inPlace := ["internal/bytealg.IndexByte", "internal/bytealg.IndexByteString", "internal/abi.NoEscape", "internal/bytealg.MakeNoZero"], unfollowed := true, recurses := true, named := ["evenhand/tree.ofStmts", "evenhand/tree.ofExprs", "evenhand/canon.between", "internal/strconv.uint64pow10", "math/bits.deBruijn32tab", "math/bits.deBruijn64tab"], loops := true, apart := false, laid := [("math/bits.deBruijn32tab", laid_math_bits_deBruijn32tab), ("math/bits.deBruijn64tab", laid_math_bits_deBruijn64tab), ("internal/strconv.uint64pow10", laid_internal_strconv_uint64pow10), ("evenhand/tree.ofExprs", laid_evenhand_tree_ofExprs), ("evenhand/tree.ofStmts", laid_evenhand_tree_ofStmts), ("evenhand/canon.between", laid_evenhand_canon_between)] }
def CanonTokensSaid : Prop := canonTokensRow.holds Tryz.pinned (OpenSpec.ofChange canonTokensSpec)

/-- ITS FALSE NEIGHBOUR: 'it returns false'. Refute it at one input. -/
def canonTokensWrong : ChangeSpec := { name := "canonTokens", fn := fun _ => fun
  | [d1, d2] => { results := [.lit (.bool false)], args := [d1, d2] }
  | _ => none }
def CanonTokensWrongFalsely : Prop := canonTokensRow.holds Tryz.pinned (OpenSpec.ofChange canonTokensWrong)

/-- 'evenhandlaw05.CanonBodies': WHATEVER THE INPUT: true; the input reads as it did. -/
def canonBodiesSpec : ChangeSpec := { name := "canonBodies", fn := fun _ => fun
  | [d] => { results := [.lit (.bool true)], args := [d] }
  | _ => none }
def canonBodiesRow : OpenClaim := { program := "ytppagjhmlgkamaagreatdoor", sum := "929f3430d76d6dc2ee85a98c02ce8bb7a4c0098d4adc26db10b9718caa3fc2f5", func := "evenhand/evenhandlaw05.CanonBodies", spec := "canonBodies", inPlace := ["internal/bytealg.IndexByte", "internal/bytealg.IndexByteString", "internal/abi.NoEscape", "internal/bytealg.MakeNoZero"], unfollowed := true, recurses := true, named := ["evenhand/tree.ofStmts", "evenhand/tree.ofExprs", "evenhand/canon.between", "internal/strconv.uint64pow10", "math/bits.deBruijn32tab", "math/bits.deBruijn64tab"], loops := true, apart := false, laid := [("math/bits.deBruijn32tab", laid_math_bits_deBruijn32tab), ("math/bits.deBruijn64tab", laid_math_bits_deBruijn64tab), ("internal/strconv.uint64pow10", laid_internal_strconv_uint64pow10), ("evenhand/tree.ofExprs", laid_evenhand_tree_ofExprs), ("evenhand/tree.ofStmts", laid_evenhand_tree_ofStmts), ("evenhand/canon.between", laid_evenhand_canon_between)] }
def CanonBodiesSaid : Prop := canonBodiesRow.holds Tryz.pinned (OpenSpec.ofChange canonBodiesSpec)

/-- ITS FALSE NEIGHBOUR: 'it returns false'. Refute it at one input. -/
def canonBodiesWrong : ChangeSpec := { name := "canonBodies", fn := fun _ => fun
  | [d] => { results := [.lit (.bool false)], args := [d] }
  | _ => none }
def CanonBodiesWrongFalsely : Prop := canonBodiesRow.holds Tryz.pinned (OpenSpec.ofChange canonBodiesWrong)

/-- 'evenhandlaw05.CanonRows': WHATEVER THE INPUT: true; the input reads as it did. -/
def canonRowsSpec : ChangeSpec := { name := "canonRows", fn := fun _ => fun
  | [d1, d2] => { results := [.lit (.bool true)], args := [d1, d2] }
  | _ => none }
def canonRowsRow : OpenClaim := { program := "ytppagjhmlgkamaagreatdoor", sum := "929f3430d76d6dc2ee85a98c02ce8bb7a4c0098d4adc26db10b9718caa3fc2f5", func := "evenhand/evenhandlaw05.CanonRows", spec := "canonRows", inPlace := ["internal/bytealg.IndexByte", "internal/bytealg.IndexByteString", "internal/abi.NoEscape", "internal/bytealg.MakeNoZero"], unfollowed := true, recurses := true, named := ["evenhand/tree.ofStmts", "evenhand/tree.ofExprs", "evenhand/canon.between", "internal/strconv.uint64pow10", "math/bits.deBruijn32tab", "math/bits.deBruijn64tab"], loops := true, apart := false, laid := [("math/bits.deBruijn32tab", laid_math_bits_deBruijn32tab), ("math/bits.deBruijn64tab", laid_math_bits_deBruijn64tab), ("internal/strconv.uint64pow10", laid_internal_strconv_uint64pow10), ("evenhand/tree.ofExprs", laid_evenhand_tree_ofExprs), ("evenhand/tree.ofStmts", laid_evenhand_tree_ofStmts), ("evenhand/canon.between", laid_evenhand_canon_between)] }
def CanonRowsSaid : Prop := canonRowsRow.holds Tryz.pinned (OpenSpec.ofChange canonRowsSpec)

/-- ITS FALSE NEIGHBOUR: 'it returns false'. Refute it at one input. -/
def canonRowsWrong : ChangeSpec := { name := "canonRows", fn := fun _ => fun
  | [d1, d2] => { results := [.lit (.bool false)], args := [d1, d2] }
  | _ => none }
def CanonRowsWrongFalsely : Prop := canonRowsRow.holds Tryz.pinned (OpenSpec.ofChange canonRowsWrong)

/- THE SECOND FORM. 'bulk': how many values and letters a reading holds, each counted each time it is reached (what is shared counts as often as it is met; a slice's spare places count too). A statement '..UptoSaid' is the law's where the arguments, and the package variables that the reading takes, are together of bulk at most 1048576: NARROWER than '..Said'. Prove '..Said' where nothing that the law and all that it calls make is longer than what came in: it says more and counts as full. Else prove '..UptoSaid'. A law counts once. -/
mutual
def uptoBulk {H : Type} : DataW H → Nat
  | .lit (.string bytes) => bytes.length + 1
  | .lit _ => 1
  | .nil => 1
  | .ptr d => uptoBulk d + 1
  | .slice elems spare => uptoBulkAll elems + uptoBulkAll spare + 1
  | .agg parts => uptoBulkAll parts + 1
  | .iface _ d => uptoBulk d + 1
  | .map entries => uptoBulkEntries entries + 1
  | .held _ => 1
def uptoBulkAll {H : Type} : List (DataW H) → Nat
  | [] => 0
  | d :: r => uptoBulk d + uptoBulkAll r
def uptoBulkEntries {H : Type} : List (Lit × DataW H) → Nat
  | [] => 0
  | x :: r => uptoBulkEntry x + uptoBulkEntries r
def uptoBulkEntry {H : Type} : Lit × DataW H → Nat
  | (.string bytes, d) => bytes.length + uptoBulk d + 1
  | (_, d) => uptoBulk d + 1
 end
def uptoSmall : (H : Type) → List (DataW H) → Bool := fun _ ds => decide (uptoBulkAll ds ≤ 1048576)
def OpenSpec.upto (s : _root_.Go.ChangeSpec) : _root_.Go.OpenSpec := { _root_.Go.OpenSpec.ofChange s with cond := some uptoSmall }

/-- 'evenhandlaw05.CanonTells', WHERE WHAT IT READS IS OF BULK AT MOST 1048576: true; the input reads as it did. -/
def canonTellsUptoRow : OpenClaim := { program := "ytppagjhmlgkamaagreatdoor", sum := "929f3430d76d6dc2ee85a98c02ce8bb7a4c0098d4adc26db10b9718caa3fc2f5", func := "evenhand/evenhandlaw05.CanonTells", spec := "canonTells", inPlace := ["internal/bytealg.IndexByte", "internal/bytealg.IndexByteString", "internal/abi.NoEscape", "internal/bytealg.MakeNoZero"], unfollowed := true, recurses := true, named := ["evenhand/tree.ofStmts", "evenhand/tree.ofExprs", "evenhand/canon.between", "internal/strconv.uint64pow10", "math/bits.deBruijn32tab", "math/bits.deBruijn64tab"], loops := true, apart := false, laid := [("math/bits.deBruijn32tab", laid_math_bits_deBruijn32tab), ("math/bits.deBruijn64tab", laid_math_bits_deBruijn64tab), ("internal/strconv.uint64pow10", laid_internal_strconv_uint64pow10), ("evenhand/tree.ofExprs", laid_evenhand_tree_ofExprs), ("evenhand/tree.ofStmts", laid_evenhand_tree_ofStmts), ("evenhand/canon.between", laid_evenhand_canon_between)], narrowed := true }
def CanonTellsUptoSaid : Prop := canonTellsUptoRow.holds Tryz.pinned (OpenSpec.upto canonTellsSpec)

/-- 'evenhandlaw05.CanonBack', WHERE WHAT IT READS IS OF BULK AT MOST 1048576: true; the input reads as it did. -/
def canonBackUptoRow : OpenClaim := { program := "ytppagjhmlgkamaagreatdoor", sum := "929f3430d76d6dc2ee85a98c02ce8bb7a4c0098d4adc26db10b9718caa3fc2f5", func := "evenhand/evenhandlaw05.CanonBack", spec := "canonBack", inPlace := ["internal/bytealg.IndexByte", "internal/bytealg.IndexByteString", "internal/abi.NoEscape", "internal/bytealg.MakeNoZero"], unfollowed := true, recurses := true, named := ["evenhand/tree.ofStmts", "evenhand/tree.ofExprs", "evenhand/canon.between", "internal/strconv.uint64pow10", "math/bits.deBruijn32tab", "math/bits.deBruijn64tab"], loops := true, apart := false, laid := [("math/bits.deBruijn32tab", laid_math_bits_deBruijn32tab), ("math/bits.deBruijn64tab", laid_math_bits_deBruijn64tab), ("internal/strconv.uint64pow10", laid_internal_strconv_uint64pow10), ("evenhand/tree.ofExprs", laid_evenhand_tree_ofExprs), ("evenhand/tree.ofStmts", laid_evenhand_tree_ofStmts), ("evenhand/canon.between", laid_evenhand_canon_between)], narrowed := true }
def CanonBackUptoSaid : Prop := canonBackUptoRow.holds Tryz.pinned (OpenSpec.upto canonBackSpec)

/-- 'evenhandlaw05.CanonExprs', WHERE WHAT IT READS IS OF BULK AT MOST 1048576: true; the input reads as it did. -/
def canonExprsUptoRow : OpenClaim := { program := "ytppagjhmlgkamaagreatdoor", sum := "929f3430d76d6dc2ee85a98c02ce8bb7a4c0098d4adc26db10b9718caa3fc2f5", func := "evenhand/evenhandlaw05.CanonExprs", spec := "canonExprs", inPlace := ["internal/bytealg.IndexByte", "internal/bytealg.IndexByteString", "internal/abi.NoEscape", "internal/bytealg.MakeNoZero"], unfollowed := true, recurses := true, named := ["evenhand/tree.ofStmts", "evenhand/tree.ofExprs", "evenhand/canon.between", "internal/strconv.uint64pow10", "math/bits.deBruijn32tab", "math/bits.deBruijn64tab"], loops := true, apart := false, laid := [("math/bits.deBruijn32tab", laid_math_bits_deBruijn32tab), ("math/bits.deBruijn64tab", laid_math_bits_deBruijn64tab), ("internal/strconv.uint64pow10", laid_internal_strconv_uint64pow10), ("evenhand/tree.ofExprs", laid_evenhand_tree_ofExprs), ("evenhand/tree.ofStmts", laid_evenhand_tree_ofStmts), ("evenhand/canon.between", laid_evenhand_canon_between)], narrowed := true }
def CanonExprsUptoSaid : Prop := canonExprsUptoRow.holds Tryz.pinned (OpenSpec.upto canonExprsSpec)

/-- 'evenhandlaw05.CanonLines', WHERE WHAT IT READS IS OF BULK AT MOST 1048576: true; the input reads as it did. -/
def canonLinesUptoRow : OpenClaim := { program := "ytppagjhmlgkamaagreatdoor", sum := "929f3430d76d6dc2ee85a98c02ce8bb7a4c0098d4adc26db10b9718caa3fc2f5", func := "evenhand/evenhandlaw05.CanonLines", spec := "canonLines", inPlace := ["internal/bytealg.IndexByte", "internal/bytealg.IndexByteString", "internal/abi.NoEscape", "internal/bytealg.MakeNoZero"], unfollowed := true, recurses := true, named := ["evenhand/tree.ofStmts", "evenhand/tree.ofExprs", "evenhand/canon.between", "internal/strconv.uint64pow10", "math/bits.deBruijn32tab", "math/bits.deBruijn64tab"], loops := true, apart := false, laid := [("math/bits.deBruijn32tab", laid_math_bits_deBruijn32tab), ("math/bits.deBruijn64tab", laid_math_bits_deBruijn64tab), ("internal/strconv.uint64pow10", laid_internal_strconv_uint64pow10), ("evenhand/tree.ofExprs", laid_evenhand_tree_ofExprs), ("evenhand/tree.ofStmts", laid_evenhand_tree_ofStmts), ("evenhand/canon.between", laid_evenhand_canon_between)], narrowed := true }
def CanonLinesUptoSaid : Prop := canonLinesUptoRow.holds Tryz.pinned (OpenSpec.upto canonLinesSpec)

/-- 'evenhandlaw05.CanonTokens', WHERE WHAT IT READS IS OF BULK AT MOST 1048576: true; the input reads as it did. -/
def canonTokensUptoRow : OpenClaim := { program := "ytppagjhmlgkamaagreatdoor", sum := "929f3430d76d6dc2ee85a98c02ce8bb7a4c0098d4adc26db10b9718caa3fc2f5", func := "evenhand/evenhandlaw05.CanonTokens", spec := "canonTokens", inPlace := ["internal/bytealg.IndexByte", "internal/bytealg.IndexByteString", "internal/abi.NoEscape", "internal/bytealg.MakeNoZero"], unfollowed := true, recurses := true, named := ["evenhand/tree.ofStmts", "evenhand/tree.ofExprs", "evenhand/canon.between", "internal/strconv.uint64pow10", "math/bits.deBruijn32tab", "math/bits.deBruijn64tab"], loops := true, apart := false, laid := [("math/bits.deBruijn32tab", laid_math_bits_deBruijn32tab), ("math/bits.deBruijn64tab", laid_math_bits_deBruijn64tab), ("internal/strconv.uint64pow10", laid_internal_strconv_uint64pow10), ("evenhand/tree.ofExprs", laid_evenhand_tree_ofExprs), ("evenhand/tree.ofStmts", laid_evenhand_tree_ofStmts), ("evenhand/canon.between", laid_evenhand_canon_between)], narrowed := true }
def CanonTokensUptoSaid : Prop := canonTokensUptoRow.holds Tryz.pinned (OpenSpec.upto canonTokensSpec)

/-- 'evenhandlaw05.CanonBodies', WHERE WHAT IT READS IS OF BULK AT MOST 1048576: true; the input reads as it did. -/
def canonBodiesUptoRow : OpenClaim := { program := "ytppagjhmlgkamaagreatdoor", sum := "929f3430d76d6dc2ee85a98c02ce8bb7a4c0098d4adc26db10b9718caa3fc2f5", func := "evenhand/evenhandlaw05.CanonBodies", spec := "canonBodies", inPlace := ["internal/bytealg.IndexByte", "internal/bytealg.IndexByteString", "internal/abi.NoEscape", "internal/bytealg.MakeNoZero"], unfollowed := true, recurses := true, named := ["evenhand/tree.ofStmts", "evenhand/tree.ofExprs", "evenhand/canon.between", "internal/strconv.uint64pow10", "math/bits.deBruijn32tab", "math/bits.deBruijn64tab"], loops := true, apart := false, laid := [("math/bits.deBruijn32tab", laid_math_bits_deBruijn32tab), ("math/bits.deBruijn64tab", laid_math_bits_deBruijn64tab), ("internal/strconv.uint64pow10", laid_internal_strconv_uint64pow10), ("evenhand/tree.ofExprs", laid_evenhand_tree_ofExprs), ("evenhand/tree.ofStmts", laid_evenhand_tree_ofStmts), ("evenhand/canon.between", laid_evenhand_canon_between)], narrowed := true }
def CanonBodiesUptoSaid : Prop := canonBodiesUptoRow.holds Tryz.pinned (OpenSpec.upto canonBodiesSpec)

/-- 'evenhandlaw05.CanonRows', WHERE WHAT IT READS IS OF BULK AT MOST 1048576: true; the input reads as it did. -/
def canonRowsUptoRow : OpenClaim := { program := "ytppagjhmlgkamaagreatdoor", sum := "929f3430d76d6dc2ee85a98c02ce8bb7a4c0098d4adc26db10b9718caa3fc2f5", func := "evenhand/evenhandlaw05.CanonRows", spec := "canonRows", inPlace := ["internal/bytealg.IndexByte", "internal/bytealg.IndexByteString", "internal/abi.NoEscape", "internal/bytealg.MakeNoZero"], unfollowed := true, recurses := true, named := ["evenhand/tree.ofStmts", "evenhand/tree.ofExprs", "evenhand/canon.between", "internal/strconv.uint64pow10", "math/bits.deBruijn32tab", "math/bits.deBruijn64tab"], loops := true, apart := false, laid := [("math/bits.deBruijn32tab", laid_math_bits_deBruijn32tab), ("math/bits.deBruijn64tab", laid_math_bits_deBruijn64tab), ("internal/strconv.uint64pow10", laid_internal_strconv_uint64pow10), ("evenhand/tree.ofExprs", laid_evenhand_tree_ofExprs), ("evenhand/tree.ofStmts", laid_evenhand_tree_ofStmts), ("evenhand/canon.between", laid_evenhand_canon_between)], narrowed := true }
def CanonRowsUptoSaid : Prop := canonRowsUptoRow.holds Tryz.pinned (OpenSpec.upto canonRowsSpec)

end Rows
end Go.Proofs.YtppagjhmlgkamaaGreatDoor
