/-
  No cell of these rows narrows 'for every input' (looked for: loops, veiled, ifaces, maps, wideKeys, modest, calm, conditions, laid).
  DERIVED. THE GIVEN ROWS OF THIS SEAT. 6 by the template 'for every input the law returns true; each argument reads behind the call as it read before'; 0 by the template 'total and deterministic' (their statements: YtdaneedflpfeaaaTotals.lean).
  GIVEN WITH THE SEED: the statements are not yours to turn. If you find one false, say at which input.
  Laid BY PROGRAM, IN A SANDBOX (cutbox-rows.mjs): the forced cells as the released guide's own fill.sh prints them over the translation 7801501e12aa2ffb… (all of the seat's roots in one cut). By AI agents, Wed Nov 11 2026. No macro, syntax, notation, axiom, sorry.
-/
import Derived.Test.YtdaneedflpfeaaaChecked
import GoSem.Claim
import GoSem.ClaimJoined
import GoSem.ClaimMapViews
import Derived.JoinedTies
import Derived.KernelRfl
namespace Go.Proofs.Ytdaneedflpfeaaa
/- THE CELL 'sum', in the pinned program and in every row, IS THE sha256 OF THE DUMP (.gsa) THAT YtdaneedflpfeaaaProg.lean LOADS. Nothing in Lean hashes anything: it is a label: what it is worth is what the hold of that sum in a sandbox is worth. -/
noncomputable def Try.pinned : Pinned := { name := "ytdaneedflpfeaaa", sum := "7801501e12aa2ffb8081b76e22db178d427faa1f3fc12976afae553185403953", checked := Try.checked }
namespace Rows
def none {H : Type} : Left H := { results := [], args := [] }

/-- 'treediffkeep.Lossless': WHATEVER THE INPUT: true; the input reads as it did. -/
def losslessSpec : ChangeSpec := { name := "lossless", fn := fun _ => fun
  | [d] => { results := [.lit (.bool true)], args := [d] }
  | _ => none }
def losslessRow : OpenClaim := { program := "ytdaneedflpfeaaa", sum := "7801501e12aa2ffb8081b76e22db178d427faa1f3fc12976afae553185403953", func := "treediff/treediffkeep.Lossless", spec := "lossless", recurses := true, apart := false }
def LosslessSaid : Prop := losslessRow.holds Try.pinned (OpenSpec.ofChange losslessSpec)

/-- ITS FALSE NEIGHBOUR: 'it returns false'. Refute it at one input. -/
def losslessWrong : ChangeSpec := { name := "lossless", fn := fun _ => fun
  | [d] => { results := [.lit (.bool false)], args := [d] }
  | _ => none }
def LosslessWrongFalsely : Prop := losslessRow.holds Try.pinned (OpenSpec.ofChange losslessWrong)

/-- 'treediffkeep.Metric': WHATEVER THE INPUT: true; the input reads as it did. -/
def metricSpec : ChangeSpec := { name := "metric", fn := fun _ => fun
  | [d1, d2, d3] => { results := [.lit (.bool true)], args := [d1, d2, d3] }
  | _ => none }
def metricRow : OpenClaim := { program := "ytdaneedflpfeaaa", sum := "7801501e12aa2ffb8081b76e22db178d427faa1f3fc12976afae553185403953", func := "treediff/treediffkeep.Metric", spec := "metric", recurses := true, apart := false }
def MetricSaid : Prop := metricRow.holds Try.pinned (OpenSpec.ofChange metricSpec)

/-- ITS FALSE NEIGHBOUR: 'it returns false'. Refute it at one input. -/
def metricWrong : ChangeSpec := { name := "metric", fn := fun _ => fun
  | [d1, d2, d3] => { results := [.lit (.bool false)], args := [d1, d2, d3] }
  | _ => none }
def MetricWrongFalsely : Prop := metricRow.holds Try.pinned (OpenSpec.ofChange metricWrong)

/-- 'treediffkeep.Rival': WHATEVER THE INPUT: true; the input reads as it did. -/
def rivalSpec : ChangeSpec := { name := "rival", fn := fun _ => fun
  | [d1, d2] => { results := [.lit (.bool true)], args := [d1, d2] }
  | _ => none }
def rivalRow : OpenClaim := { program := "ytdaneedflpfeaaa", sum := "7801501e12aa2ffb8081b76e22db178d427faa1f3fc12976afae553185403953", func := "treediff/treediffkeep.Rival", spec := "rival", recurses := true, apart := false }
def RivalSaid : Prop := rivalRow.holds Try.pinned (OpenSpec.ofChange rivalSpec)

/-- ITS FALSE NEIGHBOUR: 'it returns false'. Refute it at one input. -/
def rivalWrong : ChangeSpec := { name := "rival", fn := fun _ => fun
  | [d1, d2] => { results := [.lit (.bool false)], args := [d1, d2] }
  | _ => none }
def RivalWrongFalsely : Prop := rivalRow.holds Try.pinned (OpenSpec.ofChange rivalWrong)

/-- 'treediffkeep.Renamed': WHATEVER THE INPUT: true; the input reads as it did. -/
def renamedSpec : ChangeSpec := { name := "renamed", fn := fun _ => fun
  | [d1, d2, d3] => { results := [.lit (.bool true)], args := [d1, d2, d3] }
  | _ => none }
def renamedRow : OpenClaim := { program := "ytdaneedflpfeaaa", sum := "7801501e12aa2ffb8081b76e22db178d427faa1f3fc12976afae553185403953", func := "treediff/treediffkeep.Renamed", spec := "renamed", recurses := true, apart := false }
def RenamedSaid : Prop := renamedRow.holds Try.pinned (OpenSpec.ofChange renamedSpec)

/-- ITS FALSE NEIGHBOUR: 'it returns false'. Refute it at one input. -/
def renamedWrong : ChangeSpec := { name := "renamed", fn := fun _ => fun
  | [d1, d2, d3] => { results := [.lit (.bool false)], args := [d1, d2, d3] }
  | _ => none }
def RenamedWrongFalsely : Prop := renamedRow.holds Try.pinned (OpenSpec.ofChange renamedWrong)

/-- 'treediffkeep.Blank': WHATEVER THE INPUT: true; the input reads as it did. -/
def blankSpec : ChangeSpec := { name := "blank", fn := fun _ => fun
  | [d1, d2] => { results := [.lit (.bool true)], args := [d1, d2] }
  | _ => none }
def blankRow : OpenClaim := { program := "ytdaneedflpfeaaa", sum := "7801501e12aa2ffb8081b76e22db178d427faa1f3fc12976afae553185403953", func := "treediff/treediffkeep.Blank", spec := "blank", recurses := true, apart := false }
def BlankSaid : Prop := blankRow.holds Try.pinned (OpenSpec.ofChange blankSpec)

/-- ITS FALSE NEIGHBOUR: 'it returns false'. Refute it at one input. -/
def blankWrong : ChangeSpec := { name := "blank", fn := fun _ => fun
  | [d1, d2] => { results := [.lit (.bool false)], args := [d1, d2] }
  | _ => none }
def BlankWrongFalsely : Prop := blankRow.holds Try.pinned (OpenSpec.ofChange blankWrong)

/-- 'treediffkeep.Known': WHATEVER THE INPUT: true; the input reads as it did. -/
def knownSpec : ChangeSpec := { name := "known", fn := fun _ => fun
  | [d] => { results := [.lit (.bool true)], args := [d] }
  | _ => none }
def knownRow : OpenClaim := { program := "ytdaneedflpfeaaa", sum := "7801501e12aa2ffb8081b76e22db178d427faa1f3fc12976afae553185403953", func := "treediff/treediffkeep.Known", spec := "known", recurses := true, apart := false }
def KnownSaid : Prop := knownRow.holds Try.pinned (OpenSpec.ofChange knownSpec)

/-- ITS FALSE NEIGHBOUR: 'it returns false'. Refute it at one input. -/
def knownWrong : ChangeSpec := { name := "known", fn := fun _ => fun
  | [d] => { results := [.lit (.bool false)], args := [d] }
  | _ => none }
def KnownWrongFalsely : Prop := knownRow.holds Try.pinned (OpenSpec.ofChange knownWrong)

/- THE SECOND FORM. 'bulk': how many values and letters a reading holds, each counted each time it is reached (what is shared counts as often as it is met; a slice's spare places count too). A statement '..UptoSaid' is the law's where the arguments, and the package variables that the reading takes, are together of bulk at most 1048576: NARROWER than '..Said'. Prove '..Said' where nothing that the law and all that it calls make is longer than what came in: it says more and counts as full. Else prove '..UptoSaid'. A law counts once. -/
mutual
def uptoBulk {H : Type} : DataW H → Nat
  | .lit (.string bytes) => bytes.length + 1
  | .lit _ => 1
  | .nil => 1
  | .ptr d => uptoBulk d + 1
  | .slice elems spare => uptoBulkAll elems + uptoBulkAll spare + 1
  | .agg parts => uptoBulkAll parts + 1
  | .iface _ d => uptoBulk d + 1
  | .map entries => uptoBulkEntries entries + 1
  | .held _ => 1
def uptoBulkAll {H : Type} : List (DataW H) → Nat
  | [] => 0
  | d :: r => uptoBulk d + uptoBulkAll r
def uptoBulkEntries {H : Type} : List (Lit × DataW H) → Nat
  | [] => 0
  | x :: r => uptoBulkEntry x + uptoBulkEntries r
def uptoBulkEntry {H : Type} : Lit × DataW H → Nat
  | (.string bytes, d) => bytes.length + uptoBulk d + 1
  | (_, d) => uptoBulk d + 1
 end
def uptoSmall : (H : Type) → List (DataW H) → Bool := fun _ ds => decide (uptoBulkAll ds ≤ 1048576)
def OpenSpec.upto (s : _root_.Go.ChangeSpec) : _root_.Go.OpenSpec := { _root_.Go.OpenSpec.ofChange s with cond := some uptoSmall }

/-- 'treediffkeep.Lossless', WHERE WHAT IT READS IS OF BULK AT MOST 1048576: true; the input reads as it did. -/
def losslessUptoRow : OpenClaim := { program := "ytdaneedflpfeaaa", sum := "7801501e12aa2ffb8081b76e22db178d427faa1f3fc12976afae553185403953", func := "treediff/treediffkeep.Lossless", spec := "lossless", recurses := true, apart := false, narrowed := true }
def LosslessUptoSaid : Prop := losslessUptoRow.holds Try.pinned (OpenSpec.upto losslessSpec)

/-- 'treediffkeep.Metric', WHERE WHAT IT READS IS OF BULK AT MOST 1048576: true; the input reads as it did. -/
def metricUptoRow : OpenClaim := { program := "ytdaneedflpfeaaa", sum := "7801501e12aa2ffb8081b76e22db178d427faa1f3fc12976afae553185403953", func := "treediff/treediffkeep.Metric", spec := "metric", recurses := true, apart := false, narrowed := true }
def MetricUptoSaid : Prop := metricUptoRow.holds Try.pinned (OpenSpec.upto metricSpec)

/-- 'treediffkeep.Rival', WHERE WHAT IT READS IS OF BULK AT MOST 1048576: true; the input reads as it did. -/
def rivalUptoRow : OpenClaim := { program := "ytdaneedflpfeaaa", sum := "7801501e12aa2ffb8081b76e22db178d427faa1f3fc12976afae553185403953", func := "treediff/treediffkeep.Rival", spec := "rival", recurses := true, apart := false, narrowed := true }
def RivalUptoSaid : Prop := rivalUptoRow.holds Try.pinned (OpenSpec.upto rivalSpec)

/-- 'treediffkeep.Renamed', WHERE WHAT IT READS IS OF BULK AT MOST 1048576: true; the input reads as it did. -/
def renamedUptoRow : OpenClaim := { program := "ytdaneedflpfeaaa", sum := "7801501e12aa2ffb8081b76e22db178d427faa1f3fc12976afae553185403953", func := "treediff/treediffkeep.Renamed", spec := "renamed", recurses := true, apart := false, narrowed := true }
def RenamedUptoSaid : Prop := renamedUptoRow.holds Try.pinned (OpenSpec.upto renamedSpec)

/-- 'treediffkeep.Blank', WHERE WHAT IT READS IS OF BULK AT MOST 1048576: true; the input reads as it did. -/
def blankUptoRow : OpenClaim := { program := "ytdaneedflpfeaaa", sum := "7801501e12aa2ffb8081b76e22db178d427faa1f3fc12976afae553185403953", func := "treediff/treediffkeep.Blank", spec := "blank", recurses := true, apart := false, narrowed := true }
def BlankUptoSaid : Prop := blankUptoRow.holds Try.pinned (OpenSpec.upto blankSpec)

/-- 'treediffkeep.Known', WHERE WHAT IT READS IS OF BULK AT MOST 1048576: true; the input reads as it did. -/
def knownUptoRow : OpenClaim := { program := "ytdaneedflpfeaaa", sum := "7801501e12aa2ffb8081b76e22db178d427faa1f3fc12976afae553185403953", func := "treediff/treediffkeep.Known", spec := "known", recurses := true, apart := false, narrowed := true }
def KnownUptoSaid : Prop := knownUptoRow.holds Try.pinned (OpenSpec.upto knownSpec)

end Rows
end Go.Proofs.Ytdaneedflpfeaaa
