/-
  DERIVED. GIVEN WITH THE SEED: THE CARDS: each row of YtdaneedflpfeaaaGreatDoorRows.lean that lists a variable, with what it lists TIED to the program's text (the seventh form; the later family's looks); each row that meets fmt, with fmt's text TOLD by the authors' own Lean function (tested against real Go, not proved from fmt's source: count such statements apart). THE CARD IS WHAT COUNTS. Prove the row's statement (the work); the ties are given (YtdaneedflpfeaaaGreatDoorTie.lean); close each card by the builder's one call (the guide's Derived/Test/ToyasCard.lean, 'card_holds'). Laid BY PROGRAM, IN A SANDBOX (cutbox-door.mjs). By AI agents, Wed Nov 11 2026. No macro, syntax, notation, axiom, sorry.
-/
import Derived.Test.YtdaneedflpfeaaaGreatDoorRows
import GoSem.ClaimSeven
namespace Go.Proofs.YtdaneedflpfeaaaGreatDoor
namespace Rows

/-- THE TIED CARD OF 'treedifflaw.Diffs'. -/
def diffsCard : Claim7 := { stood := { row := diffsRow, standIns := [], harness := (true, "6d781988c0e62b576e768c4aae32b7e2f0a7637c30dc766304f9c377b97ef33b"), looks := false }, kinds := [], alts := [], laidByText := true, laidKinds := [.data, .data, .data, .data, .data], laidTests := true, laidLooks := .later }
def DiffsCardSaid : Prop := Claim7.holds Tryz.pinned (.plain (OpenSpec.ofChange diffsSpec)) diffsCard

/-- THE TIED CARD OF 'treedifflaw.Patches'. -/
def patchesCard : Claim7 := { stood := { row := patchesRow, standIns := [], harness := (true, "6d781988c0e62b576e768c4aae32b7e2f0a7637c30dc766304f9c377b97ef33b"), looks := false }, kinds := [], alts := [], laidByText := true, laidKinds := [.data, .data], laidTests := true, laidLooks := .later }
def PatchesCardSaid : Prop := Claim7.holds Tryz.pinned (.plain (OpenSpec.ofChange patchesSpec)) patchesCard

/-- THE TIED CARD OF 'treedifflaw.All'. -/
def allCard : Claim7 := { stood := { row := allRow, standIns := [], harness := (true, "6d781988c0e62b576e768c4aae32b7e2f0a7637c30dc766304f9c377b97ef33b"), looks := false }, kinds := [], alts := [], laidByText := true, laidKinds := [.data, .data, .data, .data, .data], laidTests := true, laidLooks := .later }
def AllCardSaid : Prop := Claim7.holds Tryz.pinned (.plain (OpenSpec.ofChange allSpec)) allCard

/-- THE TIED CARD OF 'treediffkeep.Patched'. -/
def patchedCard : Claim7 := { stood := { row := patchedRow, standIns := [], harness := (true, "6d781988c0e62b576e768c4aae32b7e2f0a7637c30dc766304f9c377b97ef33b"), looks := false }, kinds := [], alts := [], laidByText := true, laidKinds := [.data, .data, .data], laidTests := true, laidLooks := .later }
def PatchedCardSaid : Prop := Claim7.holds Tryz.pinned (.plain (OpenSpec.ofChange patchedSpec)) patchedCard

/-- THE SECOND FORM's CARD OF 'treedifflaw.Diffs'. -/
def diffsUptoCard : Claim7 := { stood := { row := diffsUptoRow, standIns := [], harness := (true, "6d781988c0e62b576e768c4aae32b7e2f0a7637c30dc766304f9c377b97ef33b"), looks := false }, kinds := [], alts := [], laidByText := true, laidKinds := [.data, .data, .data, .data, .data], laidTests := true, laidLooks := .later }
def DiffsUptoCardSaid : Prop := Claim7.holds Tryz.pinned (.plain (OpenSpec.upto diffsSpec)) diffsUptoCard

/-- THE SECOND FORM's CARD OF 'treedifflaw.Patches'. -/
def patchesUptoCard : Claim7 := { stood := { row := patchesUptoRow, standIns := [], harness := (true, "6d781988c0e62b576e768c4aae32b7e2f0a7637c30dc766304f9c377b97ef33b"), looks := false }, kinds := [], alts := [], laidByText := true, laidKinds := [.data, .data], laidTests := true, laidLooks := .later }
def PatchesUptoCardSaid : Prop := Claim7.holds Tryz.pinned (.plain (OpenSpec.upto patchesSpec)) patchesUptoCard

/-- THE SECOND FORM's CARD OF 'treedifflaw.All'. -/
def allUptoCard : Claim7 := { stood := { row := allUptoRow, standIns := [], harness := (true, "6d781988c0e62b576e768c4aae32b7e2f0a7637c30dc766304f9c377b97ef33b"), looks := false }, kinds := [], alts := [], laidByText := true, laidKinds := [.data, .data, .data, .data, .data], laidTests := true, laidLooks := .later }
def AllUptoCardSaid : Prop := Claim7.holds Tryz.pinned (.plain (OpenSpec.upto allSpec)) allUptoCard

/-- THE SECOND FORM's CARD OF 'treediffkeep.Patched'. -/
def patchedUptoCard : Claim7 := { stood := { row := patchedUptoRow, standIns := [], harness := (true, "6d781988c0e62b576e768c4aae32b7e2f0a7637c30dc766304f9c377b97ef33b"), looks := false }, kinds := [], alts := [], laidByText := true, laidKinds := [.data, .data, .data], laidTests := true, laidLooks := .later }
def PatchedUptoCardSaid : Prop := Claim7.holds Tryz.pinned (.plain (OpenSpec.upto patchedSpec)) patchedUptoCard
end Rows
end Go.Proofs.YtdaneedflpfeaaaGreatDoor
