/-
  DERIVED. GIVEN WITH THE SEED: THE CARDS: each row of YtabafeckdclekaaGreatDoorRows.lean that lists a variable, with what it lists TIED to the program's text (the seventh form; the later family's looks); each row that meets fmt, with fmt's text TOLD by the authors' own Lean function (tested against real Go, not proved from fmt's source: count such statements apart). THE CARD IS WHAT COUNTS. Prove the row's statement (the work); the ties are given (YtabafeckdclekaaGreatDoorTie.lean); close each card by the builder's one call (the guide's Derived/Test/ToyasCard.lean, 'card_holds'). Laid BY PROGRAM, IN A SANDBOX (cutbox-door.mjs). By AI agents, Wed Nov 11 2026. No macro, syntax, notation, axiom, sorry.
-/
import Derived.Test.YtabafeckdclekaaGreatDoorRows
import GoSem.ClaimSeven
namespace Go.Proofs.YtabafeckdclekaaGreatDoor
namespace Rows

/-- THE TIED CARD OF 'treedifflaw.Patches'. -/
def patchesCard : Claim7 := { stood := { row := patchesRow, standIns := [], harness := (true, "562829007135a037f4b49b6faee52407f1f17ce57ea0023e9fba375c3a99388d"), looks := false }, kinds := [], alts := [], laidByText := true, laidKinds := [.data, .data], laidTests := true, laidLooks := .later }
def PatchesCardSaid : Prop := Claim7.holds Tryz.pinned (.plain (OpenSpec.ofChange patchesSpec)) patchesCard

/-- THE SECOND FORM's CARD OF 'treedifflaw.Patches'. -/
def patchesUptoCard : Claim7 := { stood := { row := patchesUptoRow, standIns := [], harness := (true, "562829007135a037f4b49b6faee52407f1f17ce57ea0023e9fba375c3a99388d"), looks := false }, kinds := [], alts := [], laidByText := true, laidKinds := [.data, .data], laidTests := true, laidLooks := .later }
def PatchesUptoCardSaid : Prop := Claim7.holds Tryz.pinned (.plain (OpenSpec.upto patchesSpec)) patchesUptoCard
end Rows
end Go.Proofs.YtabafeckdclekaaGreatDoor
