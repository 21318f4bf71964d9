/-
  No cell of these rows narrows 'for every input' (looked for: loops, veiled, ifaces, maps, wideKeys, modest, calm, conditions, laid).
  DERIVED. THE GIVEN ROWS OF THIS SEAT. 8 by the template 'for every input the law returns true; each argument reads behind the call as it read before'; 0 by the template 'total and deterministic' (their statements: YtmpdnikabkandaaTotals.lean).
  GIVEN WITH THE SEED: the statements are not yours to turn. If you find one false, say at which input.
  Laid BY PROGRAM, IN A SANDBOX (cutbox-rows.mjs): the forced cells as the released guide's own fill.sh prints them over the translation 9512911b97bde41a… (all of the seat's roots in one cut). By AI agents, Wed Nov 11 2026. No macro, syntax, notation, axiom, sorry.
-/
import Derived.Test.YtmpdnikabkandaaChecked
import GoSem.Claim
import GoSem.ClaimJoined
import GoSem.ClaimMapViews
import Derived.JoinedTies
import Derived.KernelRfl
namespace Go.Proofs.Ytmpdnikabkandaa
/- THE CELL 'sum', in the pinned program and in every row, IS THE sha256 OF THE DUMP (.gsa) THAT YtmpdnikabkandaaProg.lean LOADS. Nothing in Lean hashes anything: it is a label: what it is worth is what the hold of that sum in a sandbox is worth. -/
noncomputable def Try.pinned : Pinned := { name := "ytmpdnikabkandaa", sum := "9512911b97bde41a617fc4d8fb2c84536eedad10e62f2c6b126d88f6908b2349", checked := Try.checked }
namespace Rows
def none {H : Type} : Left H := { results := [], args := [] }

/-- 'evenhandlaw04.ParseBlanks': WHATEVER THE INPUT: true; the input reads as it did. -/
def parseBlanksSpec : ChangeSpec := { name := "parseBlanks", fn := fun _ => fun
  | [d1, d2] => { results := [.lit (.bool true)], args := [d1, d2] }
  | _ => none }
def parseBlanksRow : OpenClaim := { program := "ytmpdnikabkandaa", sum := "9512911b97bde41a617fc4d8fb2c84536eedad10e62f2c6b126d88f6908b2349", func := "evenhand/evenhandlaw04.ParseBlanks", spec := "parseBlanks", inPlace := ["internal/bytealg.IndexByte", "internal/bytealg.IndexByteString"], unfollowed := true, recurses := true, apart := false }
def ParseBlanksSaid : Prop := parseBlanksRow.holds Try.pinned (OpenSpec.ofChange parseBlanksSpec)

/-- ITS FALSE NEIGHBOUR: 'it returns false'. Refute it at one input. -/
def parseBlanksWrong : ChangeSpec := { name := "parseBlanks", fn := fun _ => fun
  | [d1, d2] => { results := [.lit (.bool false)], args := [d1, d2] }
  | _ => none }
def ParseBlanksWrongFalsely : Prop := parseBlanksRow.holds Try.pinned (OpenSpec.ofChange parseBlanksWrong)

/-- 'evenhandlaw04.ParseBefore': WHATEVER THE INPUT: true; the input reads as it did. -/
def parseBeforeSpec : ChangeSpec := { name := "parseBefore", fn := fun _ => fun
  | [d1, d2] => { results := [.lit (.bool true)], args := [d1, d2] }
  | _ => none }
def parseBeforeRow : OpenClaim := { program := "ytmpdnikabkandaa", sum := "9512911b97bde41a617fc4d8fb2c84536eedad10e62f2c6b126d88f6908b2349", func := "evenhand/evenhandlaw04.ParseBefore", spec := "parseBefore", inPlace := ["internal/bytealg.IndexByte", "internal/bytealg.IndexByteString"], unfollowed := true, recurses := true, apart := false }
def ParseBeforeSaid : Prop := parseBeforeRow.holds Try.pinned (OpenSpec.ofChange parseBeforeSpec)

/-- ITS FALSE NEIGHBOUR: 'it returns false'. Refute it at one input. -/
def parseBeforeWrong : ChangeSpec := { name := "parseBefore", fn := fun _ => fun
  | [d1, d2] => { results := [.lit (.bool false)], args := [d1, d2] }
  | _ => none }
def ParseBeforeWrongFalsely : Prop := parseBeforeRow.holds Try.pinned (OpenSpec.ofChange parseBeforeWrong)

/-- 'evenhandlaw04.ParseNests': WHATEVER THE INPUT: true; the input reads as it did. -/
def parseNestsSpec : ChangeSpec := { name := "parseNests", fn := fun _ => fun
  | [d] => { results := [.lit (.bool true)], args := [d] }
  | _ => none }
def parseNestsRow : OpenClaim := { program := "ytmpdnikabkandaa", sum := "9512911b97bde41a617fc4d8fb2c84536eedad10e62f2c6b126d88f6908b2349", func := "evenhand/evenhandlaw04.ParseNests", spec := "parseNests", inPlace := ["internal/bytealg.IndexByte", "internal/bytealg.IndexByteString"], unfollowed := true, recurses := true, apart := false }
def ParseNestsSaid : Prop := parseNestsRow.holds Try.pinned (OpenSpec.ofChange parseNestsSpec)

/-- ITS FALSE NEIGHBOUR: 'it returns false'. Refute it at one input. -/
def parseNestsWrong : ChangeSpec := { name := "parseNests", fn := fun _ => fun
  | [d] => { results := [.lit (.bool false)], args := [d] }
  | _ => none }
def ParseNestsWrongFalsely : Prop := parseNestsRow.holds Try.pinned (OpenSpec.ofChange parseNestsWrong)

/-- 'evenhandlaw04.ParseBinds': WHATEVER THE INPUT: true; the input reads as it did. -/
def parseBindsSpec : ChangeSpec := { name := "parseBinds", fn := fun _ => fun
  | [d1, d2, d3, d4, d5] => { results := [.lit (.bool true)], args := [d1, d2, d3, d4, d5] }
  | _ => none }
def parseBindsRow : OpenClaim := { program := "ytmpdnikabkandaa", sum := "9512911b97bde41a617fc4d8fb2c84536eedad10e62f2c6b126d88f6908b2349", func := "evenhand/evenhandlaw04.ParseBinds", spec := "parseBinds", inPlace := ["internal/bytealg.IndexByte", "internal/bytealg.IndexByteString"], unfollowed := true, recurses := true, apart := false }
def ParseBindsSaid : Prop := parseBindsRow.holds Try.pinned (OpenSpec.ofChange parseBindsSpec)

/-- ITS FALSE NEIGHBOUR: 'it returns false'. Refute it at one input. -/
def parseBindsWrong : ChangeSpec := { name := "parseBinds", fn := fun _ => fun
  | [d1, d2, d3, d4, d5] => { results := [.lit (.bool false)], args := [d1, d2, d3, d4, d5] }
  | _ => none }
def ParseBindsWrongFalsely : Prop := parseBindsRow.holds Try.pinned (OpenSpec.ofChange parseBindsWrong)

/-- 'evenhandlaw04.ParseNumbers': WHATEVER THE INPUT: true; the input reads as it did. -/
def parseNumbersSpec : ChangeSpec := { name := "parseNumbers", fn := fun _ => fun
  | [d] => { results := [.lit (.bool true)], args := [d] }
  | _ => none }
def parseNumbersRow : OpenClaim := { program := "ytmpdnikabkandaa", sum := "9512911b97bde41a617fc4d8fb2c84536eedad10e62f2c6b126d88f6908b2349", func := "evenhand/evenhandlaw04.ParseNumbers", spec := "parseNumbers", inPlace := ["internal/bytealg.IndexByte", "internal/bytealg.IndexByteString"], unfollowed := true, recurses := true, apart := false }
def ParseNumbersSaid : Prop := parseNumbersRow.holds Try.pinned (OpenSpec.ofChange parseNumbersSpec)

/-- ITS FALSE NEIGHBOUR: 'it returns false'. Refute it at one input. -/
def parseNumbersWrong : ChangeSpec := { name := "parseNumbers", fn := fun _ => fun
  | [d] => { results := [.lit (.bool false)], args := [d] }
  | _ => none }
def ParseNumbersWrongFalsely : Prop := parseNumbersRow.holds Try.pinned (OpenSpec.ofChange parseNumbersWrong)

/-- 'evenhandlaw04.ParseFuncs': WHATEVER THE INPUT: true; the input reads as it did. -/
def parseFuncsSpec : ChangeSpec := { name := "parseFuncs", fn := fun _ => fun
  | [d1, d2, d3] => { results := [.lit (.bool true)], args := [d1, d2, d3] }
  | _ => none }
def parseFuncsRow : OpenClaim := { program := "ytmpdnikabkandaa", sum := "9512911b97bde41a617fc4d8fb2c84536eedad10e62f2c6b126d88f6908b2349", func := "evenhand/evenhandlaw04.ParseFuncs", spec := "parseFuncs", inPlace := ["internal/bytealg.IndexByte", "internal/bytealg.IndexByteString"], unfollowed := true, recurses := true, apart := false }
def ParseFuncsSaid : Prop := parseFuncsRow.holds Try.pinned (OpenSpec.ofChange parseFuncsSpec)

/-- ITS FALSE NEIGHBOUR: 'it returns false'. Refute it at one input. -/
def parseFuncsWrong : ChangeSpec := { name := "parseFuncs", fn := fun _ => fun
  | [d1, d2, d3] => { results := [.lit (.bool false)], args := [d1, d2, d3] }
  | _ => none }
def ParseFuncsWrongFalsely : Prop := parseFuncsRow.holds Try.pinned (OpenSpec.ofChange parseFuncsWrong)

/-- 'evenhandlaw04.ParseWords': WHATEVER THE INPUT: true; the input reads as it did. -/
def parseWordsSpec : ChangeSpec := { name := "parseWords", fn := fun _ => fun
  | [d1, d2] => { results := [.lit (.bool true)], args := [d1, d2] }
  | _ => none }
def parseWordsRow : OpenClaim := { program := "ytmpdnikabkandaa", sum := "9512911b97bde41a617fc4d8fb2c84536eedad10e62f2c6b126d88f6908b2349", func := "evenhand/evenhandlaw04.ParseWords", spec := "parseWords", inPlace := ["internal/bytealg.IndexByte", "internal/bytealg.IndexByteString"], unfollowed := true, recurses := true, apart := false }
def ParseWordsSaid : Prop := parseWordsRow.holds Try.pinned (OpenSpec.ofChange parseWordsSpec)

/-- ITS FALSE NEIGHBOUR: 'it returns false'. Refute it at one input. -/
def parseWordsWrong : ChangeSpec := { name := "parseWords", fn := fun _ => fun
  | [d1, d2] => { results := [.lit (.bool false)], args := [d1, d2] }
  | _ => none }
def ParseWordsWrongFalsely : Prop := parseWordsRow.holds Try.pinned (OpenSpec.ofChange parseWordsWrong)

/-- 'evenhandlaw04.ParseRows': WHATEVER THE INPUT: true; the input reads as it did. -/
def parseRowsSpec : ChangeSpec := { name := "parseRows", fn := fun _ => fun
  | [d1, d2] => { results := [.lit (.bool true)], args := [d1, d2] }
  | _ => none }
def parseRowsRow : OpenClaim := { program := "ytmpdnikabkandaa", sum := "9512911b97bde41a617fc4d8fb2c84536eedad10e62f2c6b126d88f6908b2349", func := "evenhand/evenhandlaw04.ParseRows", spec := "parseRows", inPlace := ["internal/bytealg.IndexByte", "internal/bytealg.IndexByteString"], unfollowed := true, recurses := true, apart := false }
def ParseRowsSaid : Prop := parseRowsRow.holds Try.pinned (OpenSpec.ofChange parseRowsSpec)

/-- ITS FALSE NEIGHBOUR: 'it returns false'. Refute it at one input. -/
def parseRowsWrong : ChangeSpec := { name := "parseRows", fn := fun _ => fun
  | [d1, d2] => { results := [.lit (.bool false)], args := [d1, d2] }
  | _ => none }
def ParseRowsWrongFalsely : Prop := parseRowsRow.holds Try.pinned (OpenSpec.ofChange parseRowsWrong)

/- THE SECOND FORM. 'bulk': how many values and letters a reading holds, each counted each time it is reached (what is shared counts as often as it is met; a slice's spare places count too). A statement '..UptoSaid' is the law's where the arguments, and the package variables that the reading takes, are together of bulk at most 1048576: NARROWER than '..Said'. Prove '..Said' where nothing that the law and all that it calls make is longer than what came in: it says more and counts as full. Else prove '..UptoSaid'. A law counts once. -/
mutual
def uptoBulk {H : Type} : DataW H → Nat
  | .lit (.string bytes) => bytes.length + 1
  | .lit _ => 1
  | .nil => 1
  | .ptr d => uptoBulk d + 1
  | .slice elems spare => uptoBulkAll elems + uptoBulkAll spare + 1
  | .agg parts => uptoBulkAll parts + 1
  | .iface _ d => uptoBulk d + 1
  | .map entries => uptoBulkEntries entries + 1
  | .held _ => 1
def uptoBulkAll {H : Type} : List (DataW H) → Nat
  | [] => 0
  | d :: r => uptoBulk d + uptoBulkAll r
def uptoBulkEntries {H : Type} : List (Lit × DataW H) → Nat
  | [] => 0
  | x :: r => uptoBulkEntry x + uptoBulkEntries r
def uptoBulkEntry {H : Type} : Lit × DataW H → Nat
  | (.string bytes, d) => bytes.length + uptoBulk d + 1
  | (_, d) => uptoBulk d + 1
 end
def uptoSmall : (H : Type) → List (DataW H) → Bool := fun _ ds => decide (uptoBulkAll ds ≤ 1048576)
def OpenSpec.upto (s : _root_.Go.ChangeSpec) : _root_.Go.OpenSpec := { _root_.Go.OpenSpec.ofChange s with cond := some uptoSmall }

/-- 'evenhandlaw04.ParseBlanks', WHERE WHAT IT READS IS OF BULK AT MOST 1048576: true; the input reads as it did. -/
def parseBlanksUptoRow : OpenClaim := { program := "ytmpdnikabkandaa", sum := "9512911b97bde41a617fc4d8fb2c84536eedad10e62f2c6b126d88f6908b2349", func := "evenhand/evenhandlaw04.ParseBlanks", spec := "parseBlanks", inPlace := ["internal/bytealg.IndexByte", "internal/bytealg.IndexByteString"], unfollowed := true, recurses := true, apart := false, narrowed := true }
def ParseBlanksUptoSaid : Prop := parseBlanksUptoRow.holds Try.pinned (OpenSpec.upto parseBlanksSpec)

/-- 'evenhandlaw04.ParseBefore', WHERE WHAT IT READS IS OF BULK AT MOST 1048576: true; the input reads as it did. -/
def parseBeforeUptoRow : OpenClaim := { program := "ytmpdnikabkandaa", sum := "9512911b97bde41a617fc4d8fb2c84536eedad10e62f2c6b126d88f6908b2349", func := "evenhand/evenhandlaw04.ParseBefore", spec := "parseBefore", inPlace := ["internal/bytealg.IndexByte", "internal/bytealg.IndexByteString"], unfollowed := true, recurses := true, apart := false, narrowed := true }
def ParseBeforeUptoSaid : Prop := parseBeforeUptoRow.holds Try.pinned (OpenSpec.upto parseBeforeSpec)

/-- 'evenhandlaw04.ParseNests', WHERE WHAT IT READS IS OF BULK AT MOST 1048576: true; the input reads as it did. -/
def parseNestsUptoRow : OpenClaim := { program := "ytmpdnikabkandaa", sum := "9512911b97bde41a617fc4d8fb2c84536eedad10e62f2c6b126d88f6908b2349", func := "evenhand/evenhandlaw04.ParseNests", spec := "parseNests", inPlace := ["internal/bytealg.IndexByte", "internal/bytealg.IndexByteString"], unfollowed := true, recurses := true, apart := false, narrowed := true }
def ParseNestsUptoSaid : Prop := parseNestsUptoRow.holds Try.pinned (OpenSpec.upto parseNestsSpec)

/-- 'evenhandlaw04.ParseBinds', WHERE WHAT IT READS IS OF BULK AT MOST 1048576: true; the input reads as it did. -/
def parseBindsUptoRow : OpenClaim := { program := "ytmpdnikabkandaa", sum := "9512911b97bde41a617fc4d8fb2c84536eedad10e62f2c6b126d88f6908b2349", func := "evenhand/evenhandlaw04.ParseBinds", spec := "parseBinds", inPlace := ["internal/bytealg.IndexByte", "internal/bytealg.IndexByteString"], unfollowed := true, recurses := true, apart := false, narrowed := true }
def ParseBindsUptoSaid : Prop := parseBindsUptoRow.holds Try.pinned (OpenSpec.upto parseBindsSpec)

/-- 'evenhandlaw04.ParseNumbers', WHERE WHAT IT READS IS OF BULK AT MOST 1048576: true; the input reads as it did. -/
def parseNumbersUptoRow : OpenClaim := { program := "ytmpdnikabkandaa", sum := "9512911b97bde41a617fc4d8fb2c84536eedad10e62f2c6b126d88f6908b2349", func := "evenhand/evenhandlaw04.ParseNumbers", spec := "parseNumbers", inPlace := ["internal/bytealg.IndexByte", "internal/bytealg.IndexByteString"], unfollowed := true, recurses := true, apart := false, narrowed := true }
def ParseNumbersUptoSaid : Prop := parseNumbersUptoRow.holds Try.pinned (OpenSpec.upto parseNumbersSpec)

/-- 'evenhandlaw04.ParseFuncs', WHERE WHAT IT READS IS OF BULK AT MOST 1048576: true; the input reads as it did. -/
def parseFuncsUptoRow : OpenClaim := { program := "ytmpdnikabkandaa", sum := "9512911b97bde41a617fc4d8fb2c84536eedad10e62f2c6b126d88f6908b2349", func := "evenhand/evenhandlaw04.ParseFuncs", spec := "parseFuncs", inPlace := ["internal/bytealg.IndexByte", "internal/bytealg.IndexByteString"], unfollowed := true, recurses := true, apart := false, narrowed := true }
def ParseFuncsUptoSaid : Prop := parseFuncsUptoRow.holds Try.pinned (OpenSpec.upto parseFuncsSpec)

/-- 'evenhandlaw04.ParseWords', WHERE WHAT IT READS IS OF BULK AT MOST 1048576: true; the input reads as it did. -/
def parseWordsUptoRow : OpenClaim := { program := "ytmpdnikabkandaa", sum := "9512911b97bde41a617fc4d8fb2c84536eedad10e62f2c6b126d88f6908b2349", func := "evenhand/evenhandlaw04.ParseWords", spec := "parseWords", inPlace := ["internal/bytealg.IndexByte", "internal/bytealg.IndexByteString"], unfollowed := true, recurses := true, apart := false, narrowed := true }
def ParseWordsUptoSaid : Prop := parseWordsUptoRow.holds Try.pinned (OpenSpec.upto parseWordsSpec)

/-- 'evenhandlaw04.ParseRows', WHERE WHAT IT READS IS OF BULK AT MOST 1048576: true; the input reads as it did. -/
def parseRowsUptoRow : OpenClaim := { program := "ytmpdnikabkandaa", sum := "9512911b97bde41a617fc4d8fb2c84536eedad10e62f2c6b126d88f6908b2349", func := "evenhand/evenhandlaw04.ParseRows", spec := "parseRows", inPlace := ["internal/bytealg.IndexByte", "internal/bytealg.IndexByteString"], unfollowed := true, recurses := true, apart := false, narrowed := true }
def ParseRowsUptoSaid : Prop := parseRowsUptoRow.holds Try.pinned (OpenSpec.upto parseRowsSpec)

end Rows
end Go.Proofs.Ytmpdnikabkandaa
