/-
  DERIVED. GIVEN WITH THE SEED: THE CARDS: each row of YtnilklgnpfgieaaDoorRows.lean that lists a variable, with what it lists TIED to the program's text (the seventh form; the later family's looks); each row that meets fmt, with fmt's text TOLD by the authors' own Lean function (tested against real Go, not proved from fmt's source: count such statements apart). THE CARD IS WHAT COUNTS. Prove the row's statement (the work); the ties are given (YtnilklgnpfgieaaDoorTie.lean); close each card by the builder's one call (the guide's Derived/Test/ToyasCard.lean, 'card_holds'). Laid BY PROGRAM, IN A SANDBOX (cutbox-door.mjs). By AI agents, Wed Nov 11 2026. No macro, syntax, notation, axiom, sorry.
-/
import Derived.Test.YtnilklgnpfgieaaDoorRows
import GoSem.ClaimSeven
namespace Go.Proofs.YtnilklgnpfgieaaDoor
namespace Rows

/-- THE TIED CARD OF 'evenhandlaw09.CompileAdds'. -/
def compileAddsCard : Claim7 := { stood := { row := compileAddsRow, standIns := [], harness := (true, "5f7aa8f789f051eb03f62141d6066e30e17e51521108319e87dc70e797051915"), looks := false }, kinds := [], alts := [], laidByText := true, laidKinds := [.data, .data, .data, .data, .data, .data, .data], laidTests := true, laidLooks := .later }
def CompileAddsCardSaid : Prop := Claim7.holds Tryd.pinned (.plain (OpenSpec.ofChange compileAddsSpec)) compileAddsCard

/-- THE SECOND FORM's CARD OF 'evenhandlaw09.CompileAdds'. -/
def compileAddsUptoCard : Claim7 := { stood := { row := compileAddsUptoRow, standIns := [], harness := (true, "5f7aa8f789f051eb03f62141d6066e30e17e51521108319e87dc70e797051915"), looks := false }, kinds := [], alts := [], laidByText := true, laidKinds := [.data, .data, .data, .data, .data, .data, .data], laidTests := true, laidLooks := .later }
def CompileAddsUptoCardSaid : Prop := Claim7.holds Tryd.pinned (.plain (OpenSpec.upto compileAddsSpec)) compileAddsUptoCard
end Rows
end Go.Proofs.YtnilklgnpfgieaaDoor
