/-
  DERIVED. GIVEN WITH THE SEED: THE CARDS: each row of YtppagjhmlgkamaaGreatDoorRows.lean that lists a variable, with what it lists TIED to the program's text (the seventh form; the later family's looks); each row that meets fmt, with fmt's text TOLD by the authors' own Lean function (tested against real Go, not proved from fmt's source: count such statements apart). THE CARD IS WHAT COUNTS. Prove the row's statement (the work); the ties are given (YtppagjhmlgkamaaGreatDoorTie.lean); close each card by the builder's one call (the guide's Derived/Test/ToyasCard.lean, 'card_holds'). Laid BY PROGRAM, IN A SANDBOX (cutbox-door.mjs). By AI agents, Wed Nov 11 2026. No macro, syntax, notation, axiom, sorry.
-/
import Derived.Test.YtppagjhmlgkamaaGreatDoorRows
import GoSem.ClaimSeven
namespace Go.Proofs.YtppagjhmlgkamaaGreatDoor
namespace Rows

/-- THE TIED CARD OF 'evenhandlaw05.CanonTells'. -/
def canonTellsCard : Claim7 := { stood := { row := canonTellsRow, standIns := [], harness := (true, "96df17eac8bf7a165a1b769907386ae97842116ca28bc9d1f89ee72fdf621900"), looks := true }, kinds := [], alts := [], laidByText := true, laidKinds := [.data, .data, .data, .data, .data, .data], laidTests := true, laidLooks := .later }
def CanonTellsCardSaid : Prop := Claim7.holds Tryz.pinned (.plain (OpenSpec.ofChange canonTellsSpec)) canonTellsCard

/-- THE TIED CARD OF 'evenhandlaw05.CanonBack'. -/
def canonBackCard : Claim7 := { stood := { row := canonBackRow, standIns := [], harness := (true, "96df17eac8bf7a165a1b769907386ae97842116ca28bc9d1f89ee72fdf621900"), looks := true }, kinds := [], alts := [], laidByText := true, laidKinds := [.data, .data, .data, .data, .data, .data], laidTests := true, laidLooks := .later }
def CanonBackCardSaid : Prop := Claim7.holds Tryz.pinned (.plain (OpenSpec.ofChange canonBackSpec)) canonBackCard

/-- THE TIED CARD OF 'evenhandlaw05.CanonExprs'. -/
def canonExprsCard : Claim7 := { stood := { row := canonExprsRow, standIns := [], harness := (true, "96df17eac8bf7a165a1b769907386ae97842116ca28bc9d1f89ee72fdf621900"), looks := true }, kinds := [], alts := [], laidByText := true, laidKinds := [.data, .data, .data, .data, .data, .data], laidTests := true, laidLooks := .later }
def CanonExprsCardSaid : Prop := Claim7.holds Tryz.pinned (.plain (OpenSpec.ofChange canonExprsSpec)) canonExprsCard

/-- THE TIED CARD OF 'evenhandlaw05.CanonLines'. -/
def canonLinesCard : Claim7 := { stood := { row := canonLinesRow, standIns := [], harness := (true, "96df17eac8bf7a165a1b769907386ae97842116ca28bc9d1f89ee72fdf621900"), looks := true }, kinds := [], alts := [], laidByText := true, laidKinds := [.data, .data, .data, .data, .data, .data], laidTests := true, laidLooks := .later }
def CanonLinesCardSaid : Prop := Claim7.holds Tryz.pinned (.plain (OpenSpec.ofChange canonLinesSpec)) canonLinesCard

/-- THE TIED CARD OF 'evenhandlaw05.CanonTokens'. -/
def canonTokensCard : Claim7 := { stood := { row := canonTokensRow, standIns := [], harness := (true, "96df17eac8bf7a165a1b769907386ae97842116ca28bc9d1f89ee72fdf621900"), looks := true }, kinds := [], alts := [], laidByText := true, laidKinds := [.data, .data, .data, .data, .data, .data], laidTests := true, laidLooks := .later }
def CanonTokensCardSaid : Prop := Claim7.holds Tryz.pinned (.plain (OpenSpec.ofChange canonTokensSpec)) canonTokensCard

/-- THE TIED CARD OF 'evenhandlaw05.CanonBodies'. -/
def canonBodiesCard : Claim7 := { stood := { row := canonBodiesRow, standIns := [], harness := (true, "96df17eac8bf7a165a1b769907386ae97842116ca28bc9d1f89ee72fdf621900"), looks := true }, kinds := [], alts := [], laidByText := true, laidKinds := [.data, .data, .data, .data, .data, .data], laidTests := true, laidLooks := .later }
def CanonBodiesCardSaid : Prop := Claim7.holds Tryz.pinned (.plain (OpenSpec.ofChange canonBodiesSpec)) canonBodiesCard

/-- THE TIED CARD OF 'evenhandlaw05.CanonRows'. -/
def canonRowsCard : Claim7 := { stood := { row := canonRowsRow, standIns := [], harness := (true, "96df17eac8bf7a165a1b769907386ae97842116ca28bc9d1f89ee72fdf621900"), looks := true }, kinds := [], alts := [], laidByText := true, laidKinds := [.data, .data, .data, .data, .data, .data], laidTests := true, laidLooks := .later }
def CanonRowsCardSaid : Prop := Claim7.holds Tryz.pinned (.plain (OpenSpec.ofChange canonRowsSpec)) canonRowsCard

/-- THE SECOND FORM's CARD OF 'evenhandlaw05.CanonTells'. -/
def canonTellsUptoCard : Claim7 := { stood := { row := canonTellsUptoRow, standIns := [], harness := (true, "96df17eac8bf7a165a1b769907386ae97842116ca28bc9d1f89ee72fdf621900"), looks := true }, kinds := [], alts := [], laidByText := true, laidKinds := [.data, .data, .data, .data, .data, .data], laidTests := true, laidLooks := .later }
def CanonTellsUptoCardSaid : Prop := Claim7.holds Tryz.pinned (.plain (OpenSpec.upto canonTellsSpec)) canonTellsUptoCard

/-- THE SECOND FORM's CARD OF 'evenhandlaw05.CanonBack'. -/
def canonBackUptoCard : Claim7 := { stood := { row := canonBackUptoRow, standIns := [], harness := (true, "96df17eac8bf7a165a1b769907386ae97842116ca28bc9d1f89ee72fdf621900"), looks := true }, kinds := [], alts := [], laidByText := true, laidKinds := [.data, .data, .data, .data, .data, .data], laidTests := true, laidLooks := .later }
def CanonBackUptoCardSaid : Prop := Claim7.holds Tryz.pinned (.plain (OpenSpec.upto canonBackSpec)) canonBackUptoCard

/-- THE SECOND FORM's CARD OF 'evenhandlaw05.CanonExprs'. -/
def canonExprsUptoCard : Claim7 := { stood := { row := canonExprsUptoRow, standIns := [], harness := (true, "96df17eac8bf7a165a1b769907386ae97842116ca28bc9d1f89ee72fdf621900"), looks := true }, kinds := [], alts := [], laidByText := true, laidKinds := [.data, .data, .data, .data, .data, .data], laidTests := true, laidLooks := .later }
def CanonExprsUptoCardSaid : Prop := Claim7.holds Tryz.pinned (.plain (OpenSpec.upto canonExprsSpec)) canonExprsUptoCard

/-- THE SECOND FORM's CARD OF 'evenhandlaw05.CanonLines'. -/
def canonLinesUptoCard : Claim7 := { stood := { row := canonLinesUptoRow, standIns := [], harness := (true, "96df17eac8bf7a165a1b769907386ae97842116ca28bc9d1f89ee72fdf621900"), looks := true }, kinds := [], alts := [], laidByText := true, laidKinds := [.data, .data, .data, .data, .data, .data], laidTests := true, laidLooks := .later }
def CanonLinesUptoCardSaid : Prop := Claim7.holds Tryz.pinned (.plain (OpenSpec.upto canonLinesSpec)) canonLinesUptoCard

/-- THE SECOND FORM's CARD OF 'evenhandlaw05.CanonTokens'. -/
def canonTokensUptoCard : Claim7 := { stood := { row := canonTokensUptoRow, standIns := [], harness := (true, "96df17eac8bf7a165a1b769907386ae97842116ca28bc9d1f89ee72fdf621900"), looks := true }, kinds := [], alts := [], laidByText := true, laidKinds := [.data, .data, .data, .data, .data, .data], laidTests := true, laidLooks := .later }
def CanonTokensUptoCardSaid : Prop := Claim7.holds Tryz.pinned (.plain (OpenSpec.upto canonTokensSpec)) canonTokensUptoCard

/-- THE SECOND FORM's CARD OF 'evenhandlaw05.CanonBodies'. -/
def canonBodiesUptoCard : Claim7 := { stood := { row := canonBodiesUptoRow, standIns := [], harness := (true, "96df17eac8bf7a165a1b769907386ae97842116ca28bc9d1f89ee72fdf621900"), looks := true }, kinds := [], alts := [], laidByText := true, laidKinds := [.data, .data, .data, .data, .data, .data], laidTests := true, laidLooks := .later }
def CanonBodiesUptoCardSaid : Prop := Claim7.holds Tryz.pinned (.plain (OpenSpec.upto canonBodiesSpec)) canonBodiesUptoCard

/-- THE SECOND FORM's CARD OF 'evenhandlaw05.CanonRows'. -/
def canonRowsUptoCard : Claim7 := { stood := { row := canonRowsUptoRow, standIns := [], harness := (true, "96df17eac8bf7a165a1b769907386ae97842116ca28bc9d1f89ee72fdf621900"), looks := true }, kinds := [], alts := [], laidByText := true, laidKinds := [.data, .data, .data, .data, .data, .data], laidTests := true, laidLooks := .later }
def CanonRowsUptoCardSaid : Prop := Claim7.holds Tryz.pinned (.plain (OpenSpec.upto canonRowsSpec)) canonRowsUptoCard
end Rows
end Go.Proofs.YtppagjhmlgkamaaGreatDoor
