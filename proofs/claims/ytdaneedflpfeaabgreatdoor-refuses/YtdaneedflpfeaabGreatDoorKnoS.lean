import Derived.Test.YtdaneedflpfeaabGreatDoorKnoA
namespace Go.Proofs.YtdaneedflpfeaabGreatDoor
set_option maxRecDepth 100000
open Go.RowKit

theorem dB_symm (L M : List Nd) (u v : Nat) : dB L M u v = dB M L v u := by unfold dB dN Dist.dS; rw [Dist.dl_symm]
theorem dist_of {a b : ByteArray} {L M : List Nd} {n : Int} (ha : outF a = .ok L) (hb : outF b = .ok M) (h : dB L M 0 0 = n) : distT a b = (n, 0) ∧ distT b a = (n, 0) := by
  rw [← outT_F] at ha hb
  unfold distT
  rw [ha, hb]
  simp only
  rw [dB_symm M L, h]
  exact ⟨rfl, rfl⟩


end Go.Proofs.YtdaneedflpfeaabGreatDoor
