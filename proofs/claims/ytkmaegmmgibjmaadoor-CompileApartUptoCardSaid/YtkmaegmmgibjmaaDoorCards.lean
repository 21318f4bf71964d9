/-
  DERIVED. GIVEN WITH THE SEED: THE CARDS: each row of YtkmaegmmgibjmaaDoorRows.lean that lists a variable, with what it lists TIED to the program's text (the seventh form; the later family's looks); each row that meets fmt, with fmt's text TOLD by the authors' own Lean function (tested against real Go, not proved from fmt's source: count such statements apart). THE CARD IS WHAT COUNTS. Prove the row's statement (the work); the ties are given (YtkmaegmmgibjmaaDoorTie.lean); close each card by the builder's one call (the guide's Derived/Test/ToyasCard.lean, 'card_holds'). Laid BY PROGRAM, IN A SANDBOX (cutbox-door.mjs). By AI agents, Wed Nov 11 2026. No macro, syntax, notation, axiom, sorry.
-/
import Derived.Test.YtkmaegmmgibjmaaDoorRows
import GoSem.ClaimSeven
namespace Go.Proofs.YtkmaegmmgibjmaaDoor
namespace Rows

/-- THE TIED CARD OF 'evenhandlaw09.CompileApart'. -/
def compileApartCard : Claim7 := { stood := { row := compileApartRow, standIns := [], harness := (true, "33655097135e40a270863b036e89a5d377bdde8323ea96b7365aa9467cbef389"), looks := false }, kinds := [], alts := [], laidByText := true, laidKinds := [.data, .data, .data, .data, .data, .data, .data], laidTests := true, laidLooks := .later }
def CompileApartCardSaid : Prop := Claim7.holds Tryd.pinned (.plain (OpenSpec.ofChange compileApartSpec)) compileApartCard

/-- THE TIED CARD OF 'evenhandlaw09.CompileEnds'. -/
def compileEndsCard : Claim7 := { stood := { row := compileEndsRow, standIns := [], harness := (true, "33655097135e40a270863b036e89a5d377bdde8323ea96b7365aa9467cbef389"), looks := false }, kinds := [], alts := [], laidByText := true, laidKinds := [.data, .data, .data, .data, .data, .data, .data], laidTests := true, laidLooks := .later }
def CompileEndsCardSaid : Prop := Claim7.holds Tryd.pinned (.plain (OpenSpec.ofChange compileEndsSpec)) compileEndsCard

/-- THE TIED CARD OF 'evenhandlaw09.CompileAdds'. -/
def compileAddsCard : Claim7 := { stood := { row := compileAddsRow, standIns := [], harness := (true, "33655097135e40a270863b036e89a5d377bdde8323ea96b7365aa9467cbef389"), looks := false }, kinds := [], alts := [], laidByText := true, laidKinds := [.data, .data, .data, .data, .data, .data, .data], laidTests := true, laidLooks := .later }
def CompileAddsCardSaid : Prop := Claim7.holds Tryd.pinned (.plain (OpenSpec.ofChange compileAddsSpec)) compileAddsCard

/-- THE TIED CARD OF 'evenhandlaw09.CompileDeep'. -/
def compileDeepCard : Claim7 := { stood := { row := compileDeepRow, standIns := [], harness := (true, "33655097135e40a270863b036e89a5d377bdde8323ea96b7365aa9467cbef389"), looks := false }, kinds := [], alts := [], laidByText := true, laidKinds := [.data, .data, .data, .data, .data, .data, .data], laidTests := true, laidLooks := .later }
def CompileDeepCardSaid : Prop := Claim7.holds Tryd.pinned (.plain (OpenSpec.ofChange compileDeepSpec)) compileDeepCard

/-- THE SECOND FORM's CARD OF 'evenhandlaw09.CompileApart'. -/
def compileApartUptoCard : Claim7 := { stood := { row := compileApartUptoRow, standIns := [], harness := (true, "33655097135e40a270863b036e89a5d377bdde8323ea96b7365aa9467cbef389"), looks := false }, kinds := [], alts := [], laidByText := true, laidKinds := [.data, .data, .data, .data, .data, .data, .data], laidTests := true, laidLooks := .later }
def CompileApartUptoCardSaid : Prop := Claim7.holds Tryd.pinned (.plain (OpenSpec.upto compileApartSpec)) compileApartUptoCard

/-- THE SECOND FORM's CARD OF 'evenhandlaw09.CompileEnds'. -/
def compileEndsUptoCard : Claim7 := { stood := { row := compileEndsUptoRow, standIns := [], harness := (true, "33655097135e40a270863b036e89a5d377bdde8323ea96b7365aa9467cbef389"), looks := false }, kinds := [], alts := [], laidByText := true, laidKinds := [.data, .data, .data, .data, .data, .data, .data], laidTests := true, laidLooks := .later }
def CompileEndsUptoCardSaid : Prop := Claim7.holds Tryd.pinned (.plain (OpenSpec.upto compileEndsSpec)) compileEndsUptoCard

/-- THE SECOND FORM's CARD OF 'evenhandlaw09.CompileAdds'. -/
def compileAddsUptoCard : Claim7 := { stood := { row := compileAddsUptoRow, standIns := [], harness := (true, "33655097135e40a270863b036e89a5d377bdde8323ea96b7365aa9467cbef389"), looks := false }, kinds := [], alts := [], laidByText := true, laidKinds := [.data, .data, .data, .data, .data, .data, .data], laidTests := true, laidLooks := .later }
def CompileAddsUptoCardSaid : Prop := Claim7.holds Tryd.pinned (.plain (OpenSpec.upto compileAddsSpec)) compileAddsUptoCard

/-- THE SECOND FORM's CARD OF 'evenhandlaw09.CompileDeep'. -/
def compileDeepUptoCard : Claim7 := { stood := { row := compileDeepUptoRow, standIns := [], harness := (true, "33655097135e40a270863b036e89a5d377bdde8323ea96b7365aa9467cbef389"), looks := false }, kinds := [], alts := [], laidByText := true, laidKinds := [.data, .data, .data, .data, .data, .data, .data], laidTests := true, laidLooks := .later }
def CompileDeepUptoCardSaid : Prop := Claim7.holds Tryd.pinned (.plain (OpenSpec.upto compileDeepSpec)) compileDeepUptoCard
end Rows
end Go.Proofs.YtkmaegmmgibjmaaDoor
