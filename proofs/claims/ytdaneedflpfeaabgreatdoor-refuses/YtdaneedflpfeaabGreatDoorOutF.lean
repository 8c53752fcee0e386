import Derived.Test.YtdaneedflpfeaabGreatDoorEval
import Derived.Test.YtdaneedflpfeaabGreatDoorOutShow
namespace Go.Proofs.YtdaneedflpfeaabGreatDoor
set_option maxRecDepth 100000
open Go.RowKit

def isOk : ROut → Bool | .ok _ => true | .err _ _ => false
def voidS : ByteArray := ⟨#[118, 111, 105, 100, 32, 102, 40, 41, 123, 125]⟩
/-- What read answers of a text, so that it can be computed. -/
def outF (s : ByteArray) : ROut :=
  if 600 < s.size then .err 1 0 else match parseT (scanT s) with
  | some (.fail j) => .err 2 (placeA (scanT s) j)
  | some (.ok l _) => if 20 < innerD (l.map (toNd 0)) then .err 3 0 else if 80 < l.length then .err 4 0 else .ok (l.map (toNd 0))
  | none => .err 0 0
theorem outT_F (s : ByteArray) : outT s = outF s := by unfold outT outF; rw [scanL_T]; rfl
theorem void_ok : isOk (outT voidS) = true := by rw [outT_F]; decide

end Go.Proofs.YtdaneedflpfeaabGreatDoor
