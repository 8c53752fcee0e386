import Derived.Test.YtdaneedflpfeaaaDoorTwin
namespace Go.Proofs.YtdaneedflpfeaaaDoor
set_option maxRecDepth 100000
open Go.RowKit

theorem slice_form {w : World} {base e size : Nat} {v : Value} {n : Nat} {xs : List Value} (h : w.ownsRow base e size v n xs) : ∃ a cap, v = .slice a n cap := by
  rcases h.2 with ⟨rfl, rfl⟩ | ⟨g, cap, cur, rfl, _⟩
  · exact ⟨_, _, rfl⟩
  · exact ⟨_, _, rfl⟩

theorem kind_around {toks : List Tok} {i : Nat} {k : ByteArray} {s s' : PSt} (h : aroundM i k s = some s') : kindL toks s' = kindL toks s := by
  unfold aroundM at h
  split at h
  · cases h; rfl
  · cases h

end Go.Proofs.YtdaneedflpfeaaaDoor
