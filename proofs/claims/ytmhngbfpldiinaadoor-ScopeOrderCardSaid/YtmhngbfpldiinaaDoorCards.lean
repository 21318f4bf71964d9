/-
  DERIVED. GIVEN WITH THE SEED: THE CARDS: each row of YtmhngbfpldiinaaDoorRows.lean that lists a variable, with what it lists TIED to the program's text (the seventh form; the later family's looks); each row that meets fmt, with fmt's text TOLD by the authors' own Lean function (tested against real Go, not proved from fmt's source: count such statements apart). THE CARD IS WHAT COUNTS. Prove the row's statement (the work); the ties are given (YtmhngbfpldiinaaDoorTie.lean); close each card by the builder's one call (the guide's Derived/Test/ToyasCard.lean, 'card_holds'). Laid BY PROGRAM, IN A SANDBOX (cutbox-door.mjs). By AI agents, Wed Nov 11 2026. No macro, syntax, notation, axiom, sorry.
-/
import Derived.Test.YtmhngbfpldiinaaDoorRows
import GoSem.ClaimSeven
namespace Go.Proofs.YtmhngbfpldiinaaDoor
namespace Rows

/-- THE TIED CARD OF 'evenhandlaw06.ScopeOnce'. -/
def scopeOnceCard : Claim7 := { stood := { row := scopeOnceRow, standIns := [], harness := (true, "8635fc1d527dd81e6fa3c0a816528866fb68afbdcd0609ba956262345cdd4571"), looks := true }, kinds := [], alts := [], laidByText := true, laidKinds := [.data, .data], laidTests := true, laidLooks := .later }
def ScopeOnceCardSaid : Prop := Claim7.holds Tryd.pinned (.plain (OpenSpec.ofChange scopeOnceSpec)) scopeOnceCard

/-- THE TIED CARD OF 'evenhandlaw06.ScopeApart'. -/
def scopeApartCard : Claim7 := { stood := { row := scopeApartRow, standIns := [], harness := (true, "8635fc1d527dd81e6fa3c0a816528866fb68afbdcd0609ba956262345cdd4571"), looks := true }, kinds := [], alts := [], laidByText := true, laidKinds := [.data, .data], laidTests := true, laidLooks := .later }
def ScopeApartCardSaid : Prop := Claim7.holds Tryd.pinned (.plain (OpenSpec.ofChange scopeApartSpec)) scopeApartCard

/-- THE TIED CARD OF 'evenhandlaw06.ScopeFull'. -/
def scopeFullCard : Claim7 := { stood := { row := scopeFullRow, standIns := [], harness := (true, "8635fc1d527dd81e6fa3c0a816528866fb68afbdcd0609ba956262345cdd4571"), looks := true }, kinds := [], alts := [], laidByText := true, laidKinds := [.data, .data], laidTests := true, laidLooks := .later }
def ScopeFullCardSaid : Prop := Claim7.holds Tryd.pinned (.plain (OpenSpec.ofChange scopeFullSpec)) scopeFullCard

/-- THE TIED CARD OF 'evenhandlaw06.ScopeOrder'. -/
def scopeOrderCard : Claim7 := { stood := { row := scopeOrderRow, standIns := [], harness := (true, "8635fc1d527dd81e6fa3c0a816528866fb68afbdcd0609ba956262345cdd4571"), looks := true }, kinds := [], alts := [], laidByText := true, laidKinds := [.data, .data], laidTests := true, laidLooks := .later }
def ScopeOrderCardSaid : Prop := Claim7.holds Tryd.pinned (.plain (OpenSpec.ofChange scopeOrderSpec)) scopeOrderCard

/-- THE TIED CARD OF 'evenhandlaw06.ScopeCalls'. -/
def scopeCallsCard : Claim7 := { stood := { row := scopeCallsRow, standIns := [], harness := (true, "8635fc1d527dd81e6fa3c0a816528866fb68afbdcd0609ba956262345cdd4571"), looks := true }, kinds := [], alts := [], laidByText := true, laidKinds := [.data, .data], laidTests := true, laidLooks := .later }
def ScopeCallsCardSaid : Prop := Claim7.holds Tryd.pinned (.plain (OpenSpec.ofChange scopeCallsSpec)) scopeCallsCard

/-- THE TIED CARD OF 'evenhandlaw06.ScopeKinds'. -/
def scopeKindsCard : Claim7 := { stood := { row := scopeKindsRow, standIns := [], harness := (true, "8635fc1d527dd81e6fa3c0a816528866fb68afbdcd0609ba956262345cdd4571"), looks := true }, kinds := [], alts := [], laidByText := true, laidKinds := [.data, .data], laidTests := true, laidLooks := .later }
def ScopeKindsCardSaid : Prop := Claim7.holds Tryd.pinned (.plain (OpenSpec.ofChange scopeKindsSpec)) scopeKindsCard

/-- THE TIED CARD OF 'evenhandlaw06.ScopeRenamed'. -/
def scopeRenamedCard : Claim7 := { stood := { row := scopeRenamedRow, standIns := [], harness := (true, "8635fc1d527dd81e6fa3c0a816528866fb68afbdcd0609ba956262345cdd4571"), looks := true }, kinds := [], alts := [], laidByText := true, laidKinds := [.data, .data], laidTests := true, laidLooks := .later }
def ScopeRenamedCardSaid : Prop := Claim7.holds Tryd.pinned (.plain (OpenSpec.ofChange scopeRenamedSpec)) scopeRenamedCard

/-- THE SECOND FORM's CARD OF 'evenhandlaw06.ScopeOnce'. -/
def scopeOnceUptoCard : Claim7 := { stood := { row := scopeOnceUptoRow, standIns := [], harness := (true, "8635fc1d527dd81e6fa3c0a816528866fb68afbdcd0609ba956262345cdd4571"), looks := true }, kinds := [], alts := [], laidByText := true, laidKinds := [.data, .data], laidTests := true, laidLooks := .later }
def ScopeOnceUptoCardSaid : Prop := Claim7.holds Tryd.pinned (.plain (OpenSpec.upto scopeOnceSpec)) scopeOnceUptoCard

/-- THE SECOND FORM's CARD OF 'evenhandlaw06.ScopeApart'. -/
def scopeApartUptoCard : Claim7 := { stood := { row := scopeApartUptoRow, standIns := [], harness := (true, "8635fc1d527dd81e6fa3c0a816528866fb68afbdcd0609ba956262345cdd4571"), looks := true }, kinds := [], alts := [], laidByText := true, laidKinds := [.data, .data], laidTests := true, laidLooks := .later }
def ScopeApartUptoCardSaid : Prop := Claim7.holds Tryd.pinned (.plain (OpenSpec.upto scopeApartSpec)) scopeApartUptoCard

/-- THE SECOND FORM's CARD OF 'evenhandlaw06.ScopeFull'. -/
def scopeFullUptoCard : Claim7 := { stood := { row := scopeFullUptoRow, standIns := [], harness := (true, "8635fc1d527dd81e6fa3c0a816528866fb68afbdcd0609ba956262345cdd4571"), looks := true }, kinds := [], alts := [], laidByText := true, laidKinds := [.data, .data], laidTests := true, laidLooks := .later }
def ScopeFullUptoCardSaid : Prop := Claim7.holds Tryd.pinned (.plain (OpenSpec.upto scopeFullSpec)) scopeFullUptoCard

/-- THE SECOND FORM's CARD OF 'evenhandlaw06.ScopeOrder'. -/
def scopeOrderUptoCard : Claim7 := { stood := { row := scopeOrderUptoRow, standIns := [], harness := (true, "8635fc1d527dd81e6fa3c0a816528866fb68afbdcd0609ba956262345cdd4571"), looks := true }, kinds := [], alts := [], laidByText := true, laidKinds := [.data, .data], laidTests := true, laidLooks := .later }
def ScopeOrderUptoCardSaid : Prop := Claim7.holds Tryd.pinned (.plain (OpenSpec.upto scopeOrderSpec)) scopeOrderUptoCard

/-- THE SECOND FORM's CARD OF 'evenhandlaw06.ScopeCalls'. -/
def scopeCallsUptoCard : Claim7 := { stood := { row := scopeCallsUptoRow, standIns := [], harness := (true, "8635fc1d527dd81e6fa3c0a816528866fb68afbdcd0609ba956262345cdd4571"), looks := true }, kinds := [], alts := [], laidByText := true, laidKinds := [.data, .data], laidTests := true, laidLooks := .later }
def ScopeCallsUptoCardSaid : Prop := Claim7.holds Tryd.pinned (.plain (OpenSpec.upto scopeCallsSpec)) scopeCallsUptoCard

/-- THE SECOND FORM's CARD OF 'evenhandlaw06.ScopeKinds'. -/
def scopeKindsUptoCard : Claim7 := { stood := { row := scopeKindsUptoRow, standIns := [], harness := (true, "8635fc1d527dd81e6fa3c0a816528866fb68afbdcd0609ba956262345cdd4571"), looks := true }, kinds := [], alts := [], laidByText := true, laidKinds := [.data, .data], laidTests := true, laidLooks := .later }
def ScopeKindsUptoCardSaid : Prop := Claim7.holds Tryd.pinned (.plain (OpenSpec.upto scopeKindsSpec)) scopeKindsUptoCard

/-- THE SECOND FORM's CARD OF 'evenhandlaw06.ScopeRenamed'. -/
def scopeRenamedUptoCard : Claim7 := { stood := { row := scopeRenamedUptoRow, standIns := [], harness := (true, "8635fc1d527dd81e6fa3c0a816528866fb68afbdcd0609ba956262345cdd4571"), looks := true }, kinds := [], alts := [], laidByText := true, laidKinds := [.data, .data], laidTests := true, laidLooks := .later }
def ScopeRenamedUptoCardSaid : Prop := Claim7.holds Tryd.pinned (.plain (OpenSpec.upto scopeRenamedSpec)) scopeRenamedUptoCard
end Rows
end Go.Proofs.YtmhngbfpldiinaaDoor
