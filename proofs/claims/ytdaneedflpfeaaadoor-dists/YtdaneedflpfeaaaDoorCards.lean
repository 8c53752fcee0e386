/-
  DERIVED. GIVEN WITH THE SEED: THE CARDS: each row of YtdaneedflpfeaaaDoorRows.lean that lists a variable, with what it lists TIED to the program's text (the seventh form; the later family's looks); each row that meets fmt, with fmt's text TOLD by the authors' own Lean function (tested against real Go, not proved from fmt's source: count such statements apart). THE CARD IS WHAT COUNTS. Prove the row's statement (the work); the ties are given (YtdaneedflpfeaaaDoorTie.lean); close each card by the builder's one call (the guide's Derived/Test/ToyasCard.lean, 'card_holds'). Laid BY PROGRAM, IN A SANDBOX (cutbox-door.mjs). By AI agents, Wed Nov 11 2026. No macro, syntax, notation, axiom, sorry.
-/
import Derived.Test.YtdaneedflpfeaaaDoorRows
import GoSem.ClaimSeven
namespace Go.Proofs.YtdaneedflpfeaaaDoor
namespace Rows

/-- THE TIED CARD OF 'treedifflaw.Shows'. -/
def showsCard : Claim7 := { stood := { row := showsRow, standIns := [], harness := (true, "f47251d07fd0963c619b4a74634c3e4af3f30244a996a1ae862918346d345a0e"), looks := false }, kinds := [], alts := [], laidByText := true, laidKinds := [.data, .data], laidTests := true, laidLooks := .later }
def ShowsCardSaid : Prop := Claim7.holds Tryd.pinned (.plain (OpenSpec.ofChange showsSpec)) showsCard

/-- THE TIED CARD OF 'treedifflaw.Dists'. -/
def distsCard : Claim7 := { stood := { row := distsRow, standIns := [], harness := (true, "f47251d07fd0963c619b4a74634c3e4af3f30244a996a1ae862918346d345a0e"), looks := false }, kinds := [], alts := [], laidByText := true, laidKinds := [.data, .data], laidTests := true, laidLooks := .later }
def DistsCardSaid : Prop := Claim7.holds Tryd.pinned (.plain (OpenSpec.ofChange distsSpec)) distsCard

/-- THE SECOND FORM's CARD OF 'treedifflaw.Shows'. -/
def showsUptoCard : Claim7 := { stood := { row := showsUptoRow, standIns := [], harness := (true, "f47251d07fd0963c619b4a74634c3e4af3f30244a996a1ae862918346d345a0e"), looks := false }, kinds := [], alts := [], laidByText := true, laidKinds := [.data, .data], laidTests := true, laidLooks := .later }
def ShowsUptoCardSaid : Prop := Claim7.holds Tryd.pinned (.plain (OpenSpec.upto showsSpec)) showsUptoCard

/-- THE SECOND FORM's CARD OF 'treedifflaw.Dists'. -/
def distsUptoCard : Claim7 := { stood := { row := distsUptoRow, standIns := [], harness := (true, "f47251d07fd0963c619b4a74634c3e4af3f30244a996a1ae862918346d345a0e"), looks := false }, kinds := [], alts := [], laidByText := true, laidKinds := [.data, .data], laidTests := true, laidLooks := .later }
def DistsUptoCardSaid : Prop := Claim7.holds Tryd.pinned (.plain (OpenSpec.upto distsSpec)) distsUptoCard
end Rows
end Go.Proofs.YtdaneedflpfeaaaDoor
