/-
  NARROWER THAN 'FOR EVERY INPUT', by the rows' own cells (each row's printed sentence says how): LabelTells: loops · LabelPublic: loops · LabelSecret: loops · LabelDeep: loops · LabelParts: loops · LabelReturns: loops.
  DERIVED. THE GIVEN ROWS OF THIS SEAT. 7 by the template 'for every input the law returns true; each argument reads behind the call as it read before'; 0 by the template 'total and deterministic' (their statements: YthfcnnicpmkclaaTotals.lean).
  GIVEN WITH THE SEED: the statements are not yours to turn. If you find one false, say at which input.
  Laid BY PROGRAM, IN A SANDBOX (cutbox-rows.mjs): the forced cells as the released guide's own fill.sh prints them over the translation 5a48893ff1f8f7f5… (all of the seat's roots in one cut). By AI agents, Wed Nov 11 2026. No macro, syntax, notation, axiom, sorry.
-/
import Derived.Test.YthfcnnicpmkclaaChecked
import GoSem.Claim
import GoSem.ClaimJoined
import GoSem.ClaimMapViews
import Derived.JoinedTies
import Derived.KernelRfl
namespace Go.Proofs.Ythfcnnicpmkclaa
/- THE CELL 'sum', in the pinned program and in every row, IS THE sha256 OF THE DUMP (.gsa) THAT YthfcnnicpmkclaaProg.lean LOADS. Nothing in Lean hashes anything: it is a label: what it is worth is what the hold of that sum in a sandbox is worth. -/
noncomputable def Try.pinned : Pinned := { name := "ythfcnnicpmkclaa", sum := "5a48893ff1f8f7f5d695c5c7b0add5db4db4261fc204f1a67e061f1e463184d1", checked := Try.checked }
namespace Rows
def none {H : Type} : Left H := { results := [], args := [] }

/-- 'evenhandlaw07.LabelTells': WHATEVER THE INPUT: true; the input reads as it did. -/
def labelTellsSpec : ChangeSpec := { name := "labelTells", fn := fun _ => fun
  | [d1, d2] => { results := [.lit (.bool true)], args := [d1, d2] }
  | _ => none }
def labelTellsRow : OpenClaim := { program := "ythfcnnicpmkclaa", sum := "5a48893ff1f8f7f5d695c5c7b0add5db4db4261fc204f1a67e061f1e463184d1", func := "evenhand/evenhandlaw07.LabelTells", spec := "labelTells", unfollowed := true, recurses := true, loops := true, apart := false }
def LabelTellsSaid : Prop := labelTellsRow.holds Try.pinned (OpenSpec.ofChange labelTellsSpec)

/-- ITS FALSE NEIGHBOUR: 'it returns false'. Refute it at one input. -/
def labelTellsWrong : ChangeSpec := { name := "labelTells", fn := fun _ => fun
  | [d1, d2] => { results := [.lit (.bool false)], args := [d1, d2] }
  | _ => none }
def LabelTellsWrongFalsely : Prop := labelTellsRow.holds Try.pinned (OpenSpec.ofChange labelTellsWrong)

/-- 'evenhandlaw07.LabelPublic': WHATEVER THE INPUT: true; the input reads as it did. -/
def labelPublicSpec : ChangeSpec := { name := "labelPublic", fn := fun _ => fun
  | [d] => { results := [.lit (.bool true)], args := [d] }
  | _ => none }
def labelPublicRow : OpenClaim := { program := "ythfcnnicpmkclaa", sum := "5a48893ff1f8f7f5d695c5c7b0add5db4db4261fc204f1a67e061f1e463184d1", func := "evenhand/evenhandlaw07.LabelPublic", spec := "labelPublic", unfollowed := true, recurses := true, loops := true, apart := false }
def LabelPublicSaid : Prop := labelPublicRow.holds Try.pinned (OpenSpec.ofChange labelPublicSpec)

/-- ITS FALSE NEIGHBOUR: 'it returns false'. Refute it at one input. -/
def labelPublicWrong : ChangeSpec := { name := "labelPublic", fn := fun _ => fun
  | [d] => { results := [.lit (.bool false)], args := [d] }
  | _ => none }
def LabelPublicWrongFalsely : Prop := labelPublicRow.holds Try.pinned (OpenSpec.ofChange labelPublicWrong)

/-- 'evenhandlaw07.LabelSecret': WHATEVER THE INPUT: true; the input reads as it did. -/
def labelSecretSpec : ChangeSpec := { name := "labelSecret", fn := fun _ => fun
  | [d] => { results := [.lit (.bool true)], args := [d] }
  | _ => none }
def labelSecretRow : OpenClaim := { program := "ythfcnnicpmkclaa", sum := "5a48893ff1f8f7f5d695c5c7b0add5db4db4261fc204f1a67e061f1e463184d1", func := "evenhand/evenhandlaw07.LabelSecret", spec := "labelSecret", unfollowed := true, recurses := true, loops := true, apart := false }
def LabelSecretSaid : Prop := labelSecretRow.holds Try.pinned (OpenSpec.ofChange labelSecretSpec)

/-- ITS FALSE NEIGHBOUR: 'it returns false'. Refute it at one input. -/
def labelSecretWrong : ChangeSpec := { name := "labelSecret", fn := fun _ => fun
  | [d] => { results := [.lit (.bool false)], args := [d] }
  | _ => none }
def LabelSecretWrongFalsely : Prop := labelSecretRow.holds Try.pinned (OpenSpec.ofChange labelSecretWrong)

/-- 'evenhandlaw07.LabelDeep': WHATEVER THE INPUT: true; the input reads as it did. -/
def labelDeepSpec : ChangeSpec := { name := "labelDeep", fn := fun _ => fun
  | [d1, d2] => { results := [.lit (.bool true)], args := [d1, d2] }
  | _ => none }
def labelDeepRow : OpenClaim := { program := "ythfcnnicpmkclaa", sum := "5a48893ff1f8f7f5d695c5c7b0add5db4db4261fc204f1a67e061f1e463184d1", func := "evenhand/evenhandlaw07.LabelDeep", spec := "labelDeep", unfollowed := true, recurses := true, loops := true, apart := false }
def LabelDeepSaid : Prop := labelDeepRow.holds Try.pinned (OpenSpec.ofChange labelDeepSpec)

/-- ITS FALSE NEIGHBOUR: 'it returns false'. Refute it at one input. -/
def labelDeepWrong : ChangeSpec := { name := "labelDeep", fn := fun _ => fun
  | [d1, d2] => { results := [.lit (.bool false)], args := [d1, d2] }
  | _ => none }
def LabelDeepWrongFalsely : Prop := labelDeepRow.holds Try.pinned (OpenSpec.ofChange labelDeepWrong)

/-- 'evenhandlaw07.LabelParts': WHATEVER THE INPUT: true; the input reads as it did. -/
def labelPartsSpec : ChangeSpec := { name := "labelParts", fn := fun _ => fun
  | [d1, d2, d3, d4] => { results := [.lit (.bool true)], args := [d1, d2, d3, d4] }
  | _ => none }
def labelPartsRow : OpenClaim := { program := "ythfcnnicpmkclaa", sum := "5a48893ff1f8f7f5d695c5c7b0add5db4db4261fc204f1a67e061f1e463184d1", func := "evenhand/evenhandlaw07.LabelParts", spec := "labelParts", unfollowed := true, recurses := true, loops := true, apart := false }
def LabelPartsSaid : Prop := labelPartsRow.holds Try.pinned (OpenSpec.ofChange labelPartsSpec)

/-- ITS FALSE NEIGHBOUR: 'it returns false'. Refute it at one input. -/
def labelPartsWrong : ChangeSpec := { name := "labelParts", fn := fun _ => fun
  | [d1, d2, d3, d4] => { results := [.lit (.bool false)], args := [d1, d2, d3, d4] }
  | _ => none }
def LabelPartsWrongFalsely : Prop := labelPartsRow.holds Try.pinned (OpenSpec.ofChange labelPartsWrong)

/-- 'evenhandlaw07.LabelCalls': WHATEVER THE INPUT: true; the input reads as it did. -/
def labelCallsSpec : ChangeSpec := { name := "labelCalls", fn := fun _ => fun
  | [d1, d2] => { results := [.lit (.bool true)], args := [d1, d2] }
  | _ => none }
def labelCallsRow : OpenClaim := { program := "ythfcnnicpmkclaa", sum := "5a48893ff1f8f7f5d695c5c7b0add5db4db4261fc204f1a67e061f1e463184d1", func := "evenhand/evenhandlaw07.LabelCalls", spec := "labelCalls", unfollowed := true, recurses := true, apart := false }
def LabelCallsSaid : Prop := labelCallsRow.holds Try.pinned (OpenSpec.ofChange labelCallsSpec)

/-- ITS FALSE NEIGHBOUR: 'it returns false'. Refute it at one input. -/
def labelCallsWrong : ChangeSpec := { name := "labelCalls", fn := fun _ => fun
  | [d1, d2] => { results := [.lit (.bool false)], args := [d1, d2] }
  | _ => none }
def LabelCallsWrongFalsely : Prop := labelCallsRow.holds Try.pinned (OpenSpec.ofChange labelCallsWrong)

/-- 'evenhandlaw07.LabelReturns': WHATEVER THE INPUT: true; the input reads as it did. -/
def labelReturnsSpec : ChangeSpec := { name := "labelReturns", fn := fun _ => fun
  | [d1, d2] => { results := [.lit (.bool true)], args := [d1, d2] }
  | _ => none }
def labelReturnsRow : OpenClaim := { program := "ythfcnnicpmkclaa", sum := "5a48893ff1f8f7f5d695c5c7b0add5db4db4261fc204f1a67e061f1e463184d1", func := "evenhand/evenhandlaw07.LabelReturns", spec := "labelReturns", unfollowed := true, recurses := true, loops := true, apart := false }
def LabelReturnsSaid : Prop := labelReturnsRow.holds Try.pinned (OpenSpec.ofChange labelReturnsSpec)

/-- ITS FALSE NEIGHBOUR: 'it returns false'. Refute it at one input. -/
def labelReturnsWrong : ChangeSpec := { name := "labelReturns", fn := fun _ => fun
  | [d1, d2] => { results := [.lit (.bool false)], args := [d1, d2] }
  | _ => none }
def LabelReturnsWrongFalsely : Prop := labelReturnsRow.holds Try.pinned (OpenSpec.ofChange labelReturnsWrong)

/- THE SECOND FORM. 'bulk': how many values and letters a reading holds, each counted each time it is reached (what is shared counts as often as it is met; a slice's spare places count too). A statement '..UptoSaid' is the law's where the arguments, and the package variables that the reading takes, are together of bulk at most 1048576: NARROWER than '..Said'. Prove '..Said' where nothing that the law and all that it calls make is longer than what came in: it says more and counts as full. Else prove '..UptoSaid'. A law counts once. -/
mutual
def uptoBulk {H : Type} : DataW H → Nat
  | .lit (.string bytes) => bytes.length + 1
  | .lit _ => 1
  | .nil => 1
  | .ptr d => uptoBulk d + 1
  | .slice elems spare => uptoBulkAll elems + uptoBulkAll spare + 1
  | .agg parts => uptoBulkAll parts + 1
  | .iface _ d => uptoBulk d + 1
  | .map entries => uptoBulkEntries entries + 1
  | .held _ => 1
def uptoBulkAll {H : Type} : List (DataW H) → Nat
  | [] => 0
  | d :: r => uptoBulk d + uptoBulkAll r
def uptoBulkEntries {H : Type} : List (Lit × DataW H) → Nat
  | [] => 0
  | x :: r => uptoBulkEntry x + uptoBulkEntries r
def uptoBulkEntry {H : Type} : Lit × DataW H → Nat
  | (.string bytes, d) => bytes.length + uptoBulk d + 1
  | (_, d) => uptoBulk d + 1
 end
def uptoSmall : (H : Type) → List (DataW H) → Bool := fun _ ds => decide (uptoBulkAll ds ≤ 1048576)
def OpenSpec.upto (s : _root_.Go.ChangeSpec) : _root_.Go.OpenSpec := { _root_.Go.OpenSpec.ofChange s with cond := some uptoSmall }

/-- 'evenhandlaw07.LabelTells', WHERE WHAT IT READS IS OF BULK AT MOST 1048576: true; the input reads as it did. -/
def labelTellsUptoRow : OpenClaim := { program := "ythfcnnicpmkclaa", sum := "5a48893ff1f8f7f5d695c5c7b0add5db4db4261fc204f1a67e061f1e463184d1", func := "evenhand/evenhandlaw07.LabelTells", spec := "labelTells", unfollowed := true, recurses := true, loops := true, apart := false, narrowed := true }
def LabelTellsUptoSaid : Prop := labelTellsUptoRow.holds Try.pinned (OpenSpec.upto labelTellsSpec)

/-- 'evenhandlaw07.LabelPublic', WHERE WHAT IT READS IS OF BULK AT MOST 1048576: true; the input reads as it did. -/
def labelPublicUptoRow : OpenClaim := { program := "ythfcnnicpmkclaa", sum := "5a48893ff1f8f7f5d695c5c7b0add5db4db4261fc204f1a67e061f1e463184d1", func := "evenhand/evenhandlaw07.LabelPublic", spec := "labelPublic", unfollowed := true, recurses := true, loops := true, apart := false, narrowed := true }
def LabelPublicUptoSaid : Prop := labelPublicUptoRow.holds Try.pinned (OpenSpec.upto labelPublicSpec)

/-- 'evenhandlaw07.LabelSecret', WHERE WHAT IT READS IS OF BULK AT MOST 1048576: true; the input reads as it did. -/
def labelSecretUptoRow : OpenClaim := { program := "ythfcnnicpmkclaa", sum := "5a48893ff1f8f7f5d695c5c7b0add5db4db4261fc204f1a67e061f1e463184d1", func := "evenhand/evenhandlaw07.LabelSecret", spec := "labelSecret", unfollowed := true, recurses := true, loops := true, apart := false, narrowed := true }
def LabelSecretUptoSaid : Prop := labelSecretUptoRow.holds Try.pinned (OpenSpec.upto labelSecretSpec)

/-- 'evenhandlaw07.LabelDeep', WHERE WHAT IT READS IS OF BULK AT MOST 1048576: true; the input reads as it did. -/
def labelDeepUptoRow : OpenClaim := { program := "ythfcnnicpmkclaa", sum := "5a48893ff1f8f7f5d695c5c7b0add5db4db4261fc204f1a67e061f1e463184d1", func := "evenhand/evenhandlaw07.LabelDeep", spec := "labelDeep", unfollowed := true, recurses := true, loops := true, apart := false, narrowed := true }
def LabelDeepUptoSaid : Prop := labelDeepUptoRow.holds Try.pinned (OpenSpec.upto labelDeepSpec)

/-- 'evenhandlaw07.LabelParts', WHERE WHAT IT READS IS OF BULK AT MOST 1048576: true; the input reads as it did. -/
def labelPartsUptoRow : OpenClaim := { program := "ythfcnnicpmkclaa", sum := "5a48893ff1f8f7f5d695c5c7b0add5db4db4261fc204f1a67e061f1e463184d1", func := "evenhand/evenhandlaw07.LabelParts", spec := "labelParts", unfollowed := true, recurses := true, loops := true, apart := false, narrowed := true }
def LabelPartsUptoSaid : Prop := labelPartsUptoRow.holds Try.pinned (OpenSpec.upto labelPartsSpec)

/-- 'evenhandlaw07.LabelCalls', WHERE WHAT IT READS IS OF BULK AT MOST 1048576: true; the input reads as it did. -/
def labelCallsUptoRow : OpenClaim := { program := "ythfcnnicpmkclaa", sum := "5a48893ff1f8f7f5d695c5c7b0add5db4db4261fc204f1a67e061f1e463184d1", func := "evenhand/evenhandlaw07.LabelCalls", spec := "labelCalls", unfollowed := true, recurses := true, apart := false, narrowed := true }
def LabelCallsUptoSaid : Prop := labelCallsUptoRow.holds Try.pinned (OpenSpec.upto labelCallsSpec)

/-- 'evenhandlaw07.LabelReturns', WHERE WHAT IT READS IS OF BULK AT MOST 1048576: true; the input reads as it did. -/
def labelReturnsUptoRow : OpenClaim := { program := "ythfcnnicpmkclaa", sum := "5a48893ff1f8f7f5d695c5c7b0add5db4db4261fc204f1a67e061f1e463184d1", func := "evenhand/evenhandlaw07.LabelReturns", spec := "labelReturns", unfollowed := true, recurses := true, loops := true, apart := false, narrowed := true }
def LabelReturnsUptoSaid : Prop := labelReturnsUptoRow.holds Try.pinned (OpenSpec.upto labelReturnsSpec)

end Rows
end Go.Proofs.Ythfcnnicpmkclaa
