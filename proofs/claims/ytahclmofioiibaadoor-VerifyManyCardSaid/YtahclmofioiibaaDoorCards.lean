/-
  DERIVED. GIVEN WITH THE SEED: THE CARDS: each row of YtahclmofioiibaaDoorRows.lean that lists a variable, with what it lists TIED to the program's text (the seventh form; the later family's looks); each row that meets fmt, with fmt's text TOLD by the authors' own Lean function (tested against real Go, not proved from fmt's source: count such statements apart). THE CARD IS WHAT COUNTS. Prove the row's statement (the work); the ties are given (YtahclmofioiibaaDoorTie.lean); close each card by the builder's one call (the guide's Derived/Test/ToyasCard.lean, 'card_holds'). Laid BY PROGRAM, IN A SANDBOX (cutbox-door.mjs). By AI agents, Wed Nov 11 2026. No macro, syntax, notation, axiom, sorry.
-/
import Derived.Test.YtahclmofioiibaaDoorRows
import GoSem.ClaimSeven
namespace Go.Proofs.YtahclmofioiibaaDoor
namespace Rows

/-- THE TIED CARD OF 'evenhandlaw10.VerifyCompiled'. -/
def verifyCompiledCard : Claim7 := { stood := { row := verifyCompiledRow, standIns := [], harness := (true, "a5ca0840c58a6a98910463fab05ae2497c2ccfcf88d8e158e2ed9804893fafdd"), looks := false }, kinds := [], alts := [], laidByText := true, laidKinds := [.data, .data, .data, .data], laidTests := true, laidLooks := .later }
def VerifyCompiledCardSaid : Prop := Claim7.holds Tryd.pinned (.plain (OpenSpec.ofChange verifyCompiledSpec)) verifyCompiledCard

/-- THE TIED CARD OF 'evenhandlaw10.VerifyDepths'. -/
def verifyDepthsCard : Claim7 := { stood := { row := verifyDepthsRow, standIns := [], harness := (true, "a5ca0840c58a6a98910463fab05ae2497c2ccfcf88d8e158e2ed9804893fafdd"), looks := false }, kinds := [], alts := [], laidByText := true, laidKinds := [.data], laidTests := true, laidLooks := .later }
def VerifyDepthsCardSaid : Prop := Claim7.holds Tryd.pinned (.plain (OpenSpec.ofChange verifyDepthsSpec)) verifyDepthsCard

/-- THE TIED CARD OF 'evenhandlaw10.VerifyJumps'. -/
def verifyJumpsCard : Claim7 := { stood := { row := verifyJumpsRow, standIns := [], harness := (true, "a5ca0840c58a6a98910463fab05ae2497c2ccfcf88d8e158e2ed9804893fafdd"), looks := false }, kinds := [], alts := [], laidByText := true, laidKinds := [.data], laidTests := true, laidLooks := .later }
def VerifyJumpsCardSaid : Prop := Claim7.holds Tryd.pinned (.plain (OpenSpec.ofChange verifyJumpsSpec)) verifyJumpsCard

/-- THE TIED CARD OF 'evenhandlaw10.VerifyMany'. -/
def verifyManyCard : Claim7 := { stood := { row := verifyManyRow, standIns := [], harness := (true, "a5ca0840c58a6a98910463fab05ae2497c2ccfcf88d8e158e2ed9804893fafdd"), looks := false }, kinds := [], alts := [], laidByText := true, laidKinds := [.data], laidTests := true, laidLooks := .later }
def VerifyManyCardSaid : Prop := Claim7.holds Tryd.pinned (.plain (OpenSpec.ofChange verifyManySpec)) verifyManyCard

/-- THE SECOND FORM's CARD OF 'evenhandlaw10.VerifyCompiled'. -/
def verifyCompiledUptoCard : Claim7 := { stood := { row := verifyCompiledUptoRow, standIns := [], harness := (true, "a5ca0840c58a6a98910463fab05ae2497c2ccfcf88d8e158e2ed9804893fafdd"), looks := false }, kinds := [], alts := [], laidByText := true, laidKinds := [.data, .data, .data, .data], laidTests := true, laidLooks := .later }
def VerifyCompiledUptoCardSaid : Prop := Claim7.holds Tryd.pinned (.plain (OpenSpec.upto verifyCompiledSpec)) verifyCompiledUptoCard

/-- THE SECOND FORM's CARD OF 'evenhandlaw10.VerifyDepths'. -/
def verifyDepthsUptoCard : Claim7 := { stood := { row := verifyDepthsUptoRow, standIns := [], harness := (true, "a5ca0840c58a6a98910463fab05ae2497c2ccfcf88d8e158e2ed9804893fafdd"), looks := false }, kinds := [], alts := [], laidByText := true, laidKinds := [.data], laidTests := true, laidLooks := .later }
def VerifyDepthsUptoCardSaid : Prop := Claim7.holds Tryd.pinned (.plain (OpenSpec.upto verifyDepthsSpec)) verifyDepthsUptoCard

/-- THE SECOND FORM's CARD OF 'evenhandlaw10.VerifyJumps'. -/
def verifyJumpsUptoCard : Claim7 := { stood := { row := verifyJumpsUptoRow, standIns := [], harness := (true, "a5ca0840c58a6a98910463fab05ae2497c2ccfcf88d8e158e2ed9804893fafdd"), looks := false }, kinds := [], alts := [], laidByText := true, laidKinds := [.data], laidTests := true, laidLooks := .later }
def VerifyJumpsUptoCardSaid : Prop := Claim7.holds Tryd.pinned (.plain (OpenSpec.upto verifyJumpsSpec)) verifyJumpsUptoCard

/-- THE SECOND FORM's CARD OF 'evenhandlaw10.VerifyMany'. -/
def verifyManyUptoCard : Claim7 := { stood := { row := verifyManyUptoRow, standIns := [], harness := (true, "a5ca0840c58a6a98910463fab05ae2497c2ccfcf88d8e158e2ed9804893fafdd"), looks := false }, kinds := [], alts := [], laidByText := true, laidKinds := [.data], laidTests := true, laidLooks := .later }
def VerifyManyUptoCardSaid : Prop := Claim7.holds Tryd.pinned (.plain (OpenSpec.upto verifyManySpec)) verifyManyUptoCard
end Rows
end Go.Proofs.YtahclmofioiibaaDoor
