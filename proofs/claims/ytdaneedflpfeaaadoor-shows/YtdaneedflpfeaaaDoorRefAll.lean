import Derived.Test.YtdaneedflpfeaaaDoorRefM1
import Derived.Test.YtdaneedflpfeaaaDoorRefM2
import Derived.Test.YtdaneedflpfeaaaDoorRefM3
import Derived.Test.YtdaneedflpfeaaaDoorRefM4
import Derived.Test.YtdaneedflpfeaaaDoorRefM5
import Derived.Test.YtdaneedflpfeaaaDoorRefM6
namespace Go.Proofs.YtdaneedflpfeaaaDoor
set_option maxRecDepth 100000
open Go.RowKit

/-- All methods of the document's reader, at every bound. -/
theorem rmethods {b : Nat} {lv : Value} {rt : List RTok} {toks : List Tok} (R : Rel rt toks) (n : Nat) : RIH b lv rt toks n := by
  induction n using Nat.strongRecOn with
  | ind n ih =>
    intro g st st' r w hg hP h
    cases n with
    | zero => cases h
    | succ n =>
      have ih' : ∀ m, m ≤ n → RIH b lv rt toks m := fun m hm => ih m (by omega)
      cases g
      all_goals first | (cases hg; done) | skip
      · exact rfunction_step R ih' hP h
      · exact rstatement_step R ih' hP h
      · exact rblock_step R ih' hP h
      · exact rvalue_step R ih' hP h
      · exact ror_step R ih' hP h
      · exact rand_step R ih' hP h
      · exact rrel_step R ih' hP h
      · exact rsum_step R ih' hP h
      · exact rprod_step R ih' hP h
      · exact rsingle_step R ih' hP h

end Go.Proofs.YtdaneedflpfeaaaDoor
