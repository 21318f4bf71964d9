/-
  DERIVED. GIVEN WITH THE SEED: THE CARDS: each row of YtloimjmbbinnpaaDoorRows.lean that lists a variable, with what it lists TIED to the program's text (the seventh form; the later family's looks); each row that meets fmt, with fmt's text TOLD by the authors' own Lean function (tested against real Go, not proved from fmt's source: count such statements apart). THE CARD IS WHAT COUNTS. Prove the row's statement (the work); the ties are given (YtloimjmbbinnpaaDoorTie.lean); close each card by the builder's one call (the guide's Derived/Test/ToyasCard.lean, 'card_holds'). Laid BY PROGRAM, IN A SANDBOX (cutbox-door.mjs). By AI agents, Wed Nov 11 2026. No macro, syntax, notation, axiom, sorry.
-/
import Derived.Test.YtloimjmbbinnpaaDoorRows
import GoSem.ClaimSeven
namespace Go.Proofs.YtloimjmbbinnpaaDoor
namespace Rows

/-- THE TIED CARD OF 'evenhandlaw08.CodeTells'. -/
def codeTellsCard : Claim7 := { stood := { row := codeTellsRow, standIns := [], harness := (true, "a2b642b701a31df0ff51d5c2d35c20d7c74fa48eebfcc2273be4e25cb41a8105"), looks := false }, kinds := [], alts := [], laidByText := true, laidKinds := [.data, .data, .data, .data], laidTests := true, laidLooks := .later }
def CodeTellsCardSaid : Prop := Claim7.holds Tryd.pinned (.plain (OpenSpec.ofChange codeTellsSpec)) codeTellsCard

/-- THE TIED CARD OF 'evenhandlaw08.CodeTexts'. -/
def codeTextsCard : Claim7 := { stood := { row := codeTextsRow, standIns := [], harness := (true, "a2b642b701a31df0ff51d5c2d35c20d7c74fa48eebfcc2273be4e25cb41a8105"), looks := false }, kinds := [], alts := [], laidByText := true, laidKinds := [.data, .data, .data, .data], laidTests := true, laidLooks := .later }
def CodeTextsCardSaid : Prop := Claim7.holds Tryd.pinned (.plain (OpenSpec.ofChange codeTextsSpec)) codeTextsCard

/-- THE TIED CARD OF 'evenhandlaw08.CodeCosts'. -/
def codeCostsCard : Claim7 := { stood := { row := codeCostsRow, standIns := [], harness := (true, "a2b642b701a31df0ff51d5c2d35c20d7c74fa48eebfcc2273be4e25cb41a8105"), looks := false }, kinds := [], alts := [], laidByText := true, laidKinds := [.data, .data, .data, .data], laidTests := true, laidLooks := .later }
def CodeCostsCardSaid : Prop := Claim7.holds Tryd.pinned (.plain (OpenSpec.ofChange codeCostsSpec)) codeCostsCard

/-- THE TIED CARD OF 'evenhandlaw08.CodeNames'. -/
def codeNamesCard : Claim7 := { stood := { row := codeNamesRow, standIns := [], harness := (true, "a2b642b701a31df0ff51d5c2d35c20d7c74fa48eebfcc2273be4e25cb41a8105"), looks := false }, kinds := [], alts := [], laidByText := true, laidKinds := [.data, .data, .data, .data], laidTests := true, laidLooks := .later }
def CodeNamesCardSaid : Prop := Claim7.holds Tryd.pinned (.plain (OpenSpec.ofChange codeNamesSpec)) codeNamesCard

/-- THE SECOND FORM's CARD OF 'evenhandlaw08.CodeTells'. -/
def codeTellsUptoCard : Claim7 := { stood := { row := codeTellsUptoRow, standIns := [], harness := (true, "a2b642b701a31df0ff51d5c2d35c20d7c74fa48eebfcc2273be4e25cb41a8105"), looks := false }, kinds := [], alts := [], laidByText := true, laidKinds := [.data, .data, .data, .data], laidTests := true, laidLooks := .later }
def CodeTellsUptoCardSaid : Prop := Claim7.holds Tryd.pinned (.plain (OpenSpec.upto codeTellsSpec)) codeTellsUptoCard

/-- THE SECOND FORM's CARD OF 'evenhandlaw08.CodeTexts'. -/
def codeTextsUptoCard : Claim7 := { stood := { row := codeTextsUptoRow, standIns := [], harness := (true, "a2b642b701a31df0ff51d5c2d35c20d7c74fa48eebfcc2273be4e25cb41a8105"), looks := false }, kinds := [], alts := [], laidByText := true, laidKinds := [.data, .data, .data, .data], laidTests := true, laidLooks := .later }
def CodeTextsUptoCardSaid : Prop := Claim7.holds Tryd.pinned (.plain (OpenSpec.upto codeTextsSpec)) codeTextsUptoCard

/-- THE SECOND FORM's CARD OF 'evenhandlaw08.CodeCosts'. -/
def codeCostsUptoCard : Claim7 := { stood := { row := codeCostsUptoRow, standIns := [], harness := (true, "a2b642b701a31df0ff51d5c2d35c20d7c74fa48eebfcc2273be4e25cb41a8105"), looks := false }, kinds := [], alts := [], laidByText := true, laidKinds := [.data, .data, .data, .data], laidTests := true, laidLooks := .later }
def CodeCostsUptoCardSaid : Prop := Claim7.holds Tryd.pinned (.plain (OpenSpec.upto codeCostsSpec)) codeCostsUptoCard

/-- THE SECOND FORM's CARD OF 'evenhandlaw08.CodeNames'. -/
def codeNamesUptoCard : Claim7 := { stood := { row := codeNamesUptoRow, standIns := [], harness := (true, "a2b642b701a31df0ff51d5c2d35c20d7c74fa48eebfcc2273be4e25cb41a8105"), looks := false }, kinds := [], alts := [], laidByText := true, laidKinds := [.data, .data, .data, .data], laidTests := true, laidLooks := .later }
def CodeNamesUptoCardSaid : Prop := Claim7.holds Tryd.pinned (.plain (OpenSpec.upto codeNamesSpec)) codeNamesUptoCard
end Rows
end Go.Proofs.YtloimjmbbinnpaaDoor
