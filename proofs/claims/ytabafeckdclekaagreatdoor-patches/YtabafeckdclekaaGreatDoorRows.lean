/-
  NARROWER THAN 'FOR EVERY INPUT', by the rows' own cells (each row's printed sentence says how): Patches: laid.
  DERIVED. THE GIVEN ROWS OF THIS SEAT. 1 by the template 'for every input the law returns true; each argument reads behind the call as it read before'; 0 by the template 'total and deterministic' (their statements: YtabafeckdclekaaGreatDoorTotals.lean).
  GIVEN WITH THE SEED: the statements are not yours to turn. If you find one false, say at which input.
  Laid BY PROGRAM, IN A SANDBOX (cutbox-rows.mjs): the forced cells as the released guide's own fill.sh prints them over the translation caf0bd6a57509534… (all of the seat's roots in one cut). By AI agents, Wed Nov 11 2026. No macro, syntax, notation, axiom, sorry.
-/
import Derived.Test.YtabafeckdclekaaGreatDoorChecked
import GoSem.Claim
import GoSem.ClaimJoined
import GoSem.ClaimMapViews
import Derived.JoinedTies
import Derived.KernelRfl
namespace Go.Proofs.YtabafeckdclekaaGreatDoor
/- THE CELL 'sum', in the pinned program and in every row, IS THE sha256 OF THE DUMP (.gsa) THAT YtabafeckdclekaaGreatDoorProg.lean LOADS. Nothing in Lean hashes anything: it is a label: what it is worth is what the hold of that sum in a sandbox is worth. -/
noncomputable def Tryz.pinned : Pinned := { name := "ytabafeckdclekaagreatdoor", sum := "caf0bd6a57509534720feaae7c4be6554e251cba449e35d67702e66d66d2d3c2", checked := Tryz.checked }
namespace Rows
def none {H : Type} : Left H := { results := [], args := [] }

/- WHAT THE LISTED PACKAGE-LEVEL VARIABLES READ AS WHEN THE CALL BEGINS. Each datum BY PROGRAM (the guide's laid-datum.mjs) off the statement by which the dump's own 'gosem.cut.vars' lays the variable. In a bare row this is a premise. The card (YtabafeckdclekaaGreatDoorCards.lean) ties it to the program's text. -/
def laid_treediff_treediffref_signs {H : Type} : DataW H := .agg [.lit (.string [61, 61]), .lit (.string [33, 61]), .lit (.string [38, 38]), .lit (.string [124, 124]), .lit (.string [40]), .lit (.string [41]), .lit (.string [123]), .lit (.string [125]), .lit (.string [44]), .lit (.string [59]), .lit (.string [61]), .lit (.string [60]), .lit (.string [62]), .lit (.string [43]), .lit (.string [45]), .lit (.string [42]), .lit (.string [47]), .lit (.string [33])]
def laid_treediff_treediffref_keywords {H : Type} : DataW H := .agg [.lit (.string [105, 110, 116]), .lit (.string [99, 104, 97, 114]), .lit (.string [118, 111, 105, 100]), .lit (.string [105, 102]), .lit (.string [101, 108, 115, 101]), .lit (.string [119, 104, 105, 108, 101]), .lit (.string [114, 101, 116, 117, 114, 110])]

/-- 'treedifflaw.Patches': WHATEVER THE INPUT: true; the input reads as it did. -/
def patchesSpec : ChangeSpec := { name := "patches", fn := fun _ => fun
  | [d1, d2] => { results := [.lit (.bool true)], args := [d1, d2] }
  | _ => none }
def patchesRow : OpenClaim := { program := "ytabafeckdclekaagreatdoor", sum := "caf0bd6a57509534720feaae7c4be6554e251cba449e35d67702e66d66d2d3c2", func := "treediff/treedifflaw.Patches", spec := "patches", recurses := true, named := ["treediff/treediffref.keywords", "treediff/treediffref.signs"], apart := false, laid := [("treediff/treediffref.signs", laid_treediff_treediffref_signs), ("treediff/treediffref.keywords", laid_treediff_treediffref_keywords)] }
def PatchesSaid : Prop := patchesRow.holds Tryz.pinned (OpenSpec.ofChange patchesSpec)

/-- ITS FALSE NEIGHBOUR: 'it returns false'. Refute it at one input. -/
def patchesWrong : ChangeSpec := { name := "patches", fn := fun _ => fun
  | [d1, d2] => { results := [.lit (.bool false)], args := [d1, d2] }
  | _ => none }
def PatchesWrongFalsely : Prop := patchesRow.holds Tryz.pinned (OpenSpec.ofChange patchesWrong)

/- THE SECOND FORM. 'bulk': how many values and letters a reading holds, each counted each time it is reached (what is shared counts as often as it is met; a slice's spare places count too). A statement '..UptoSaid' is the law's where the arguments, and the package variables that the reading takes, are together of bulk at most 1048576: NARROWER than '..Said'. Prove '..Said' where nothing that the law and all that it calls make is longer than what came in: it says more and counts as full. Else prove '..UptoSaid'. A law counts once. -/
mutual
def uptoBulk {H : Type} : DataW H → Nat
  | .lit (.string bytes) => bytes.length + 1
  | .lit _ => 1
  | .nil => 1
  | .ptr d => uptoBulk d + 1
  | .slice elems spare => uptoBulkAll elems + uptoBulkAll spare + 1
  | .agg parts => uptoBulkAll parts + 1
  | .iface _ d => uptoBulk d + 1
  | .map entries => uptoBulkEntries entries + 1
  | .held _ => 1
def uptoBulkAll {H : Type} : List (DataW H) → Nat
  | [] => 0
  | d :: r => uptoBulk d + uptoBulkAll r
def uptoBulkEntries {H : Type} : List (Lit × DataW H) → Nat
  | [] => 0
  | x :: r => uptoBulkEntry x + uptoBulkEntries r
def uptoBulkEntry {H : Type} : Lit × DataW H → Nat
  | (.string bytes, d) => bytes.length + uptoBulk d + 1
  | (_, d) => uptoBulk d + 1
 end
def uptoSmall : (H : Type) → List (DataW H) → Bool := fun _ ds => decide (uptoBulkAll ds ≤ 1048576)
def OpenSpec.upto (s : _root_.Go.ChangeSpec) : _root_.Go.OpenSpec := { _root_.Go.OpenSpec.ofChange s with cond := some uptoSmall }

/-- 'treedifflaw.Patches', WHERE WHAT IT READS IS OF BULK AT MOST 1048576: true; the input reads as it did. -/
def patchesUptoRow : OpenClaim := { program := "ytabafeckdclekaagreatdoor", sum := "caf0bd6a57509534720feaae7c4be6554e251cba449e35d67702e66d66d2d3c2", func := "treediff/treedifflaw.Patches", spec := "patches", recurses := true, named := ["treediff/treediffref.keywords", "treediff/treediffref.signs"], apart := false, laid := [("treediff/treediffref.signs", laid_treediff_treediffref_signs), ("treediff/treediffref.keywords", laid_treediff_treediffref_keywords)], narrowed := true }
def PatchesUptoSaid : Prop := patchesUptoRow.holds Tryz.pinned (OpenSpec.upto patchesSpec)

end Rows
end Go.Proofs.YtabafeckdclekaaGreatDoor
