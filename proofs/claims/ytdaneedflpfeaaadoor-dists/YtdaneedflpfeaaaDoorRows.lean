/-
  NARROWER THAN 'FOR EVERY INPUT', by the rows' own cells (each row's printed sentence says how): Shows: laid · Dists: laid.
  DERIVED. THE GIVEN ROWS OF THIS SEAT. 2 by the template 'for every input the law returns true; each argument reads behind the call as it read before'; 0 by the template 'total and deterministic' (their statements: YtdaneedflpfeaaaDoorTotals.lean).
  GIVEN WITH THE SEED: the statements are not yours to turn. If you find one false, say at which input.
  Laid BY PROGRAM, IN A SANDBOX (cutbox-rows.mjs): the forced cells as the released guide's own fill.sh prints them over the translation 9a2580455cc79373… (all of the seat's roots in one cut). By AI agents, Wed Nov 11 2026. No macro, syntax, notation, axiom, sorry.
-/
import Derived.Test.YtdaneedflpfeaaaDoorChecked
import GoSem.Claim
import GoSem.ClaimJoined
import GoSem.ClaimMapViews
import Derived.JoinedTies
import Derived.KernelRfl
namespace Go.Proofs.YtdaneedflpfeaaaDoor
/- THE CELL 'sum', in the pinned program and in every row, IS THE sha256 OF THE DUMP (.gsa) THAT YtdaneedflpfeaaaDoorProg.lean LOADS. Nothing in Lean hashes anything: it is a label: what it is worth is what the hold of that sum in a sandbox is worth. -/
noncomputable def Tryd.pinned : Pinned := { name := "ytdaneedflpfeaaadoor", sum := "9a2580455cc793735fbea6b437bb754ec652d24ffdb2dfedf1bf1dde5b2cc8af", checked := Tryd.checked }
namespace Rows
def none {H : Type} : Left H := { results := [], args := [] }

/- WHAT THE LISTED PACKAGE-LEVEL VARIABLES READ AS WHEN THE CALL BEGINS. Each datum BY PROGRAM (the guide's laid-datum.mjs) off the statement by which the dump's own 'gosem.cut.vars' lays the variable. In a bare row this is a premise. The card (YtdaneedflpfeaaaDoorCards.lean) ties it to the program's text. -/
def laid_treediff_treediffref_signs {H : Type} : DataW H := .agg [.lit (.string [61, 61]), .lit (.string [33, 61]), .lit (.string [38, 38]), .lit (.string [124, 124]), .lit (.string [40]), .lit (.string [41]), .lit (.string [123]), .lit (.string [125]), .lit (.string [44]), .lit (.string [59]), .lit (.string [61]), .lit (.string [60]), .lit (.string [62]), .lit (.string [43]), .lit (.string [45]), .lit (.string [42]), .lit (.string [47]), .lit (.string [33])]
def laid_treediff_treediffref_keywords {H : Type} : DataW H := .agg [.lit (.string [105, 110, 116]), .lit (.string [99, 104, 97, 114]), .lit (.string [118, 111, 105, 100]), .lit (.string [105, 102]), .lit (.string [101, 108, 115, 101]), .lit (.string [119, 104, 105, 108, 101]), .lit (.string [114, 101, 116, 117, 114, 110])]

/-- 'treedifflaw.Shows': WHATEVER THE INPUT: true; the input reads as it did. -/
def showsSpec : ChangeSpec := { name := "shows", fn := fun _ => fun
  | [d] => { results := [.lit (.bool true)], args := [d] }
  | _ => none }
def showsRow : OpenClaim := { program := "ytdaneedflpfeaaadoor", sum := "9a2580455cc793735fbea6b437bb754ec652d24ffdb2dfedf1bf1dde5b2cc8af", func := "treediff/treedifflaw.Shows", spec := "shows", recurses := true, named := ["treediff/treediffref.keywords", "treediff/treediffref.signs"], apart := false, laid := [("treediff/treediffref.signs", laid_treediff_treediffref_signs), ("treediff/treediffref.keywords", laid_treediff_treediffref_keywords)] }
def ShowsSaid : Prop := showsRow.holds Tryd.pinned (OpenSpec.ofChange showsSpec)

/-- ITS FALSE NEIGHBOUR: 'it returns false'. Refute it at one input. -/
def showsWrong : ChangeSpec := { name := "shows", fn := fun _ => fun
  | [d] => { results := [.lit (.bool false)], args := [d] }
  | _ => none }
def ShowsWrongFalsely : Prop := showsRow.holds Tryd.pinned (OpenSpec.ofChange showsWrong)

/-- 'treedifflaw.Dists': WHATEVER THE INPUT: true; the input reads as it did. -/
def distsSpec : ChangeSpec := { name := "dists", fn := fun _ => fun
  | [d1, d2] => { results := [.lit (.bool true)], args := [d1, d2] }
  | _ => none }
def distsRow : OpenClaim := { program := "ytdaneedflpfeaaadoor", sum := "9a2580455cc793735fbea6b437bb754ec652d24ffdb2dfedf1bf1dde5b2cc8af", func := "treediff/treedifflaw.Dists", spec := "dists", recurses := true, named := ["treediff/treediffref.keywords", "treediff/treediffref.signs"], apart := false, laid := [("treediff/treediffref.signs", laid_treediff_treediffref_signs), ("treediff/treediffref.keywords", laid_treediff_treediffref_keywords)] }
def DistsSaid : Prop := distsRow.holds Tryd.pinned (OpenSpec.ofChange distsSpec)

/-- ITS FALSE NEIGHBOUR: 'it returns false'. Refute it at one input. -/
def distsWrong : ChangeSpec := { name := "dists", fn := fun _ => fun
  | [d1, d2] => { results := [.lit (.bool false)], args := [d1, d2] }
  | _ => none }
def DistsWrongFalsely : Prop := distsRow.holds Tryd.pinned (OpenSpec.ofChange distsWrong)

/- THE SECOND FORM. 'bulk': how many values and letters a reading holds, each counted each time it is reached (what is shared counts as often as it is met; a slice's spare places count too). A statement '..UptoSaid' is the law's where the arguments, and the package variables that the reading takes, are together of bulk at most 1048576: NARROWER than '..Said'. Prove '..Said' where nothing that the law and all that it calls make is longer than what came in: it says more and counts as full. Else prove '..UptoSaid'. A law counts once. -/
mutual
def uptoBulk {H : Type} : DataW H → Nat
  | .lit (.string bytes) => bytes.length + 1
  | .lit _ => 1
  | .nil => 1
  | .ptr d => uptoBulk d + 1
  | .slice elems spare => uptoBulkAll elems + uptoBulkAll spare + 1
  | .agg parts => uptoBulkAll parts + 1
  | .iface _ d => uptoBulk d + 1
  | .map entries => uptoBulkEntries entries + 1
  | .held _ => 1
def uptoBulkAll {H : Type} : List (DataW H) → Nat
  | [] => 0
  | d :: r => uptoBulk d + uptoBulkAll r
def uptoBulkEntries {H : Type} : List (Lit × DataW H) → Nat
  | [] => 0
  | x :: r => uptoBulkEntry x + uptoBulkEntries r
def uptoBulkEntry {H : Type} : Lit × DataW H → Nat
  | (.string bytes, d) => bytes.length + uptoBulk d + 1
  | (_, d) => uptoBulk d + 1
 end
def uptoSmall : (H : Type) → List (DataW H) → Bool := fun _ ds => decide (uptoBulkAll ds ≤ 1048576)
def OpenSpec.upto (s : _root_.Go.ChangeSpec) : _root_.Go.OpenSpec := { _root_.Go.OpenSpec.ofChange s with cond := some uptoSmall }

/-- 'treedifflaw.Shows', WHERE WHAT IT READS IS OF BULK AT MOST 1048576: true; the input reads as it did. -/
def showsUptoRow : OpenClaim := { program := "ytdaneedflpfeaaadoor", sum := "9a2580455cc793735fbea6b437bb754ec652d24ffdb2dfedf1bf1dde5b2cc8af", func := "treediff/treedifflaw.Shows", spec := "shows", recurses := true, named := ["treediff/treediffref.keywords", "treediff/treediffref.signs"], apart := false, laid := [("treediff/treediffref.signs", laid_treediff_treediffref_signs), ("treediff/treediffref.keywords", laid_treediff_treediffref_keywords)], narrowed := true }
def ShowsUptoSaid : Prop := showsUptoRow.holds Tryd.pinned (OpenSpec.upto showsSpec)

/-- 'treedifflaw.Dists', WHERE WHAT IT READS IS OF BULK AT MOST 1048576: true; the input reads as it did. -/
def distsUptoRow : OpenClaim := { program := "ytdaneedflpfeaaadoor", sum := "9a2580455cc793735fbea6b437bb754ec652d24ffdb2dfedf1bf1dde5b2cc8af", func := "treediff/treedifflaw.Dists", spec := "dists", recurses := true, named := ["treediff/treediffref.keywords", "treediff/treediffref.signs"], apart := false, laid := [("treediff/treediffref.signs", laid_treediff_treediffref_signs), ("treediff/treediffref.keywords", laid_treediff_treediffref_keywords)], narrowed := true }
def DistsUptoSaid : Prop := distsUptoRow.holds Tryd.pinned (OpenSpec.upto distsSpec)

end Rows
end Go.Proofs.YtdaneedflpfeaaaDoor
