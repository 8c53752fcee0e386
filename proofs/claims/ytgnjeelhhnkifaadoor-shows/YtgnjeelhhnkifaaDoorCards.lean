/-
  DERIVED. GIVEN WITH THE SEED: THE CARDS: each row of YtgnjeelhhnkifaaDoorRows.lean that lists a variable, with what it lists TIED to the program's text (the seventh form; the later family's looks); each row that meets fmt, with fmt's text TOLD by the authors' own Lean function (tested against real Go, not proved from fmt's source: count such statements apart). THE CARD IS WHAT COUNTS. Prove the row's statement (the work); the ties are given (YtgnjeelhhnkifaaDoorTie.lean); close each card by the builder's one call (the guide's Derived/Test/ToyasCard.lean, 'card_holds'). Laid BY PROGRAM, IN A SANDBOX (cutbox-door.mjs). By AI agents, Wed Nov 11 2026. No macro, syntax, notation, axiom, sorry.
-/
import Derived.Test.YtgnjeelhhnkifaaDoorRows
import GoSem.ClaimSeven
namespace Go.Proofs.YtgnjeelhhnkifaaDoor
namespace Rows

/-- THE TIED CARD OF 'treedifflaw.Shows'. -/
def showsCard : Claim7 := { stood := { row := showsRow, standIns := [], harness := (true, "c594b33bd298ad2c3b91409839f0cd90dda14e0a0152429ff2d24c2dc27c91b8"), looks := false }, kinds := [], alts := [], laidByText := true, laidKinds := [.data, .data], laidTests := true, laidLooks := .later }
def ShowsCardSaid : Prop := Claim7.holds Tryd.pinned (.plain (OpenSpec.ofChange showsSpec)) showsCard

/-- THE SECOND FORM's CARD OF 'treedifflaw.Shows'. -/
def showsUptoCard : Claim7 := { stood := { row := showsUptoRow, standIns := [], harness := (true, "c594b33bd298ad2c3b91409839f0cd90dda14e0a0152429ff2d24c2dc27c91b8"), looks := false }, kinds := [], alts := [], laidByText := true, laidKinds := [.data, .data], laidTests := true, laidLooks := .later }
def ShowsUptoCardSaid : Prop := Claim7.holds Tryd.pinned (.plain (OpenSpec.upto showsSpec)) showsUptoCard
end Rows
end Go.Proofs.YtgnjeelhhnkifaaDoor
