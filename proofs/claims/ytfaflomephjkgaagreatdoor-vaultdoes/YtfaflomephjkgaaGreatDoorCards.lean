/-
  DERIVED. GIVEN WITH THE SEED: THE CARDS: each row of YtfaflomephjkgaaGreatDoorRows.lean that lists a variable, with what it lists TIED to the program's text (the seventh form; the later family's looks); each row that meets fmt, with fmt's text TOLD by the authors' own Lean function (tested against real Go, not proved from fmt's source: count such statements apart). THE CARD IS WHAT COUNTS. Prove the row's statement (the work); the ties are given (YtfaflomephjkgaaGreatDoorTie.lean); close each card by the builder's one call (the guide's Derived/Test/ToyasCard.lean, 'card_holds'). Laid BY PROGRAM, IN A SANDBOX (cutbox-door.mjs). By AI agents, Wed Nov 11 2026. No macro, syntax, notation, axiom, sorry.
-/
import Derived.Test.YtfaflomephjkgaaGreatDoorRows
import GoSem.ClaimSeven
namespace Go.Proofs.YtfaflomephjkgaaGreatDoor
namespace Rows

/-- THE TIED CARD OF 'sphragislaw13.VaultDoes'. -/
def vaultDoesCard : Claim7 := { stood := { row := vaultDoesRow, standIns := [], harness := (true, "cacf2199027289564e207efcf2e2aa568b14d92dbb2934c19011a7d6682b756f"), looks := false }, kinds := [], alts := [], laidByText := true, laidKinds := [.data, .data, .data], laidTests := true, laidLooks := .later }
def VaultDoesCardSaid : Prop := Claim7.holds Tryz.pinned (.plain (OpenSpec.ofChange vaultDoesSpec)) vaultDoesCard

/-- THE SECOND FORM's CARD OF 'sphragislaw13.VaultDoes'. -/
def vaultDoesUptoCard : Claim7 := { stood := { row := vaultDoesUptoRow, standIns := [], harness := (true, "cacf2199027289564e207efcf2e2aa568b14d92dbb2934c19011a7d6682b756f"), looks := false }, kinds := [], alts := [], laidByText := true, laidKinds := [.data, .data, .data], laidTests := true, laidLooks := .later }
def VaultDoesUptoCardSaid : Prop := Claim7.holds Tryz.pinned (.plain (OpenSpec.upto vaultDoesSpec)) vaultDoesUptoCard
end Rows
end Go.Proofs.YtfaflomephjkgaaGreatDoor
