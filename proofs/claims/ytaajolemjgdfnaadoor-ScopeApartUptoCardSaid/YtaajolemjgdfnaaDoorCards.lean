/-
  DERIVED. GIVEN WITH THE SEED: THE CARDS: each row of YtaajolemjgdfnaaDoorRows.lean that lists a variable, with what it lists TIED to the program's text (the seventh form; the later family's looks); each row that meets fmt, with fmt's text TOLD by the authors' own Lean function (tested against real Go, not proved from fmt's source: count such statements apart). THE CARD IS WHAT COUNTS. Prove the row's statement (the work); the ties are given (YtaajolemjgdfnaaDoorTie.lean); close each card by the builder's one call (the guide's Derived/Test/ToyasCard.lean, 'card_holds'). Laid BY PROGRAM, IN A SANDBOX (cutbox-door.mjs). By AI agents, Wed Nov 11 2026. No macro, syntax, notation, axiom, sorry.
-/
import Derived.Test.YtaajolemjgdfnaaDoorRows
import GoSem.ClaimSeven
namespace Go.Proofs.YtaajolemjgdfnaaDoor
namespace Rows

/-- THE TIED CARD OF 'evenhandlaw06.ScopeOnce'. -/
def scopeOnceCard : Claim7 := { stood := { row := scopeOnceRow, standIns := [], harness := (true, "7ef92235f8e3858143b65eb9c370f4b349b335b3ea66a1501387d2dc29fbccf1"), looks := true }, kinds := [], alts := [], laidByText := true, laidKinds := [.data, .data], laidTests := true, laidLooks := .later }
def ScopeOnceCardSaid : Prop := Claim7.holds Tryd.pinned (.plain (OpenSpec.ofChange scopeOnceSpec)) scopeOnceCard

/-- THE TIED CARD OF 'evenhandlaw06.ScopeApart'. -/
def scopeApartCard : Claim7 := { stood := { row := scopeApartRow, standIns := [], harness := (true, "7ef92235f8e3858143b65eb9c370f4b349b335b3ea66a1501387d2dc29fbccf1"), looks := true }, kinds := [], alts := [], laidByText := true, laidKinds := [.data, .data], laidTests := true, laidLooks := .later }
def ScopeApartCardSaid : Prop := Claim7.holds Tryd.pinned (.plain (OpenSpec.ofChange scopeApartSpec)) scopeApartCard

/-- THE TIED CARD OF 'evenhandlaw06.ScopeFull'. -/
def scopeFullCard : Claim7 := { stood := { row := scopeFullRow, standIns := [], harness := (true, "7ef92235f8e3858143b65eb9c370f4b349b335b3ea66a1501387d2dc29fbccf1"), looks := true }, kinds := [], alts := [], laidByText := true, laidKinds := [.data, .data], laidTests := true, laidLooks := .later }
def ScopeFullCardSaid : Prop := Claim7.holds Tryd.pinned (.plain (OpenSpec.ofChange scopeFullSpec)) scopeFullCard

/-- THE TIED CARD OF 'evenhandlaw06.ScopeOrder'. -/
def scopeOrderCard : Claim7 := { stood := { row := scopeOrderRow, standIns := [], harness := (true, "7ef92235f8e3858143b65eb9c370f4b349b335b3ea66a1501387d2dc29fbccf1"), looks := true }, kinds := [], alts := [], laidByText := true, laidKinds := [.data, .data], laidTests := true, laidLooks := .later }
def ScopeOrderCardSaid : Prop := Claim7.holds Tryd.pinned (.plain (OpenSpec.ofChange scopeOrderSpec)) scopeOrderCard

/-- THE TIED CARD OF 'evenhandlaw06.ScopeCalls'. -/
def scopeCallsCard : Claim7 := { stood := { row := scopeCallsRow, standIns := [], harness := (true, "7ef92235f8e3858143b65eb9c370f4b349b335b3ea66a1501387d2dc29fbccf1"), looks := true }, kinds := [], alts := [], laidByText := true, laidKinds := [.data, .data], laidTests := true, laidLooks := .later }
def ScopeCallsCardSaid : Prop := Claim7.holds Tryd.pinned (.plain (OpenSpec.ofChange scopeCallsSpec)) scopeCallsCard

/-- THE SECOND FORM's CARD OF 'evenhandlaw06.ScopeOnce'. -/
def scopeOnceUptoCard : Claim7 := { stood := { row := scopeOnceUptoRow, standIns := [], harness := (true, "7ef92235f8e3858143b65eb9c370f4b349b335b3ea66a1501387d2dc29fbccf1"), looks := true }, kinds := [], alts := [], laidByText := true, laidKinds := [.data, .data], laidTests := true, laidLooks := .later }
def ScopeOnceUptoCardSaid : Prop := Claim7.holds Tryd.pinned (.plain (OpenSpec.upto scopeOnceSpec)) scopeOnceUptoCard

/-- THE SECOND FORM's CARD OF 'evenhandlaw06.ScopeApart'. -/
def scopeApartUptoCard : Claim7 := { stood := { row := scopeApartUptoRow, standIns := [], harness := (true, "7ef92235f8e3858143b65eb9c370f4b349b335b3ea66a1501387d2dc29fbccf1"), looks := true }, kinds := [], alts := [], laidByText := true, laidKinds := [.data, .data], laidTests := true, laidLooks := .later }
def ScopeApartUptoCardSaid : Prop := Claim7.holds Tryd.pinned (.plain (OpenSpec.upto scopeApartSpec)) scopeApartUptoCard

/-- THE SECOND FORM's CARD OF 'evenhandlaw06.ScopeFull'. -/
def scopeFullUptoCard : Claim7 := { stood := { row := scopeFullUptoRow, standIns := [], harness := (true, "7ef92235f8e3858143b65eb9c370f4b349b335b3ea66a1501387d2dc29fbccf1"), looks := true }, kinds := [], alts := [], laidByText := true, laidKinds := [.data, .data], laidTests := true, laidLooks := .later }
def ScopeFullUptoCardSaid : Prop := Claim7.holds Tryd.pinned (.plain (OpenSpec.upto scopeFullSpec)) scopeFullUptoCard

/-- THE SECOND FORM's CARD OF 'evenhandlaw06.ScopeOrder'. -/
def scopeOrderUptoCard : Claim7 := { stood := { row := scopeOrderUptoRow, standIns := [], harness := (true, "7ef92235f8e3858143b65eb9c370f4b349b335b3ea66a1501387d2dc29fbccf1"), looks := true }, kinds := [], alts := [], laidByText := true, laidKinds := [.data, .data], laidTests := true, laidLooks := .later }
def ScopeOrderUptoCardSaid : Prop := Claim7.holds Tryd.pinned (.plain (OpenSpec.upto scopeOrderSpec)) scopeOrderUptoCard

/-- THE SECOND FORM's CARD OF 'evenhandlaw06.ScopeCalls'. -/
def scopeCallsUptoCard : Claim7 := { stood := { row := scopeCallsUptoRow, standIns := [], harness := (true, "7ef92235f8e3858143b65eb9c370f4b349b335b3ea66a1501387d2dc29fbccf1"), looks := true }, kinds := [], alts := [], laidByText := true, laidKinds := [.data, .data], laidTests := true, laidLooks := .later }
def ScopeCallsUptoCardSaid : Prop := Claim7.holds Tryd.pinned (.plain (OpenSpec.upto scopeCallsSpec)) scopeCallsUptoCard
end Rows
end Go.Proofs.YtaajolemjgdfnaaDoor
