/-
  DERIVED. GIVEN WITH THE SEED: THE CARDS: each row of YtdaneedflpfeaabGreatDoorRows.lean that lists a variable, with what it lists TIED to the program's text (the seventh form; the later family's looks); each row that meets fmt, with fmt's text TOLD by the authors' own Lean function (tested against real Go, not proved from fmt's source: count such statements apart). THE CARD IS WHAT COUNTS. Prove the row's statement (the work); the ties are given (YtdaneedflpfeaabGreatDoorTie.lean); close each card by the builder's one call (the guide's Derived/Test/ToyasCard.lean, 'card_holds'). Laid BY PROGRAM, IN A SANDBOX (cutbox-door.mjs). By AI agents, Wed Nov 11 2026. No macro, syntax, notation, axiom, sorry.
-/
import Derived.Test.YtdaneedflpfeaabGreatDoorRows
import GoSem.ClaimSeven
namespace Go.Proofs.YtdaneedflpfeaabGreatDoor
namespace Rows

/-- THE TIED CARD OF 'treediffkeep.Refuses'. -/
def refusesCard : Claim7 := { stood := { row := refusesRow, standIns := [], harness := (true, "09aafebf4e877add5e2e56882111a7e6c5a3bfb4d48b1e66b780d4dd793a48e0"), looks := false }, kinds := [], alts := [], laidByText := true, laidKinds := [.data, .data, .data], laidTests := true, laidLooks := .later }
def RefusesCardSaid : Prop := Claim7.holds Tryz.pinned (.plain (OpenSpec.ofChange refusesSpec)) refusesCard

/-- THE SECOND FORM's CARD OF 'treediffkeep.Refuses'. -/
def refusesUptoCard : Claim7 := { stood := { row := refusesUptoRow, standIns := [], harness := (true, "09aafebf4e877add5e2e56882111a7e6c5a3bfb4d48b1e66b780d4dd793a48e0"), looks := false }, kinds := [], alts := [], laidByText := true, laidKinds := [.data, .data, .data], laidTests := true, laidLooks := .later }
def RefusesUptoCardSaid : Prop := Claim7.holds Tryz.pinned (.plain (OpenSpec.upto refusesSpec)) refusesUptoCard
end Rows
end Go.Proofs.YtdaneedflpfeaabGreatDoor
