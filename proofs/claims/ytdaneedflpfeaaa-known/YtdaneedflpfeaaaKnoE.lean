import Derived.Test.YtdaneedflpfeaaaKnoD
import Derived.Deep.RegionHeld3
import Derived.Great.BuildSlice
namespace Go.Proofs.Ytdaneedflpfeaaa
set_option maxRecDepth 100000
open Go.RowKit

/-! ## The tables in memory -/
theorem alloc_at {w : World} {o : Obj} : (w.alloc o).heap[w.heap.size]? = some o := heap_alloc_new _ _
set_option maxHeartbeats 1600000 in
theorem lots_any (w : World) : Calls Try.prog 18 #[] w fun e w' => Below w.heap.size w w' ∧ ∃ g, e = .returned (.slice (some ⟨g, 0, none⟩) 13 13) ∧ w'.heap[g]? = some (.cells lotC 46 (0, 0)) := by
  go_enter Try.func18, Try.ntmps18
  go_wp2_with fail
  go_ret
  exact ⟨(Below.refl _ _).alloc (Nat.le_refl _) _, _, rfl, heap_alloc_new _ _⟩
set_option maxHeartbeats 1600000 in
theorem pairs_any (w : World) : Calls Try.prog 19 #[] w fun e w' => Below w.heap.size w w' ∧ ∃ g, e = .returned (.slice (some ⟨g, 0, none⟩) 14 14) ∧ w'.heap[g]? = some (.cells parC 48 (0, 0)) := by
  go_enter Try.func19, Try.ntmps19
  go_wp2_with fail
  go_ret
  exact ⟨(Below.refl _ _).alloc (Nat.le_refl _) _, _, rfl, heap_alloc_new _ _⟩
theorem rep_next (n : Nat) : mk (repL n) ++ ⟨#[114, 32, 49, 32, 64, 102, 117, 110, 99, 116, 105, 111, 110, 10]⟩ = mk (repL (n + 1)) := by
  show mk (repL n) ++ mk unitL = _
  rw [mk_append, repL_snoc]
theorem Try.infoPch : (Try.prog.info? 50).map (fun i => (i.zero, i.size, i.bytes)) = some (some (.agg #[.string ⟨#[]⟩, .string ⟨#[]⟩, .string ⟨#[]⟩, .int .i64 0, .int .i64 0]), 5, 64) := by kernel_rfl
set_option maxHeartbeats 3200000 in
theorem patches_any (w : World) : Calls Try.prog 20 #[] w fun e w' => Below w.heap.size w w' ∧ ∃ g, e = .returned (.slice (some ⟨g, 0, none⟩) 33 33) ∧ w'.heap[g]? = some (.cells pchC 50 (0, 0)) := by
  go_enter Try.func20, Try.ntmps20
  go_wp2_with fail
  go_loopw [1] (fun s wr => ∃ n : Nat, n ≤ 643 ∧ s = .string (mk (repL n)) ∧ Below w.heap.size w wr) (fun s _ => 9010 - (match s with | .string b => b.size | _ => 0))
  case atStart => exact ⟨0, by omega, rfl, Below.refl _ _⟩
  case round =>
    obtain ⟨n, hn, rfl, hB⟩ := hrel
    have HB := hide hB
    have hszB := hB.size
    have HSZ : Hid ((mk (repL n)).size = 14 * n) := by show _ = _; rw [mk_size, repL_len]
    have HSZ' : Hid ((mk (repL (n + 1))).size = 14 * (n + 1)) := by show _ = _; rw [mk_size, repL_len]
    have HNX := hide (rep_next n)
    clear hB
    by_cases hlt : n < 643
    · have h1 : (mk (repL n)).size < 9000 := by rw [unhide HSZ]; omega
      generalize mk (repL n) = s at *
      go_wp2_with fail
      go_roundw
      case rel => exact ⟨n + 1, by omega, by rw [← unhide HNX], unhide HB⟩
      case measure =>
        have := unhide HSZ
        have := unhide HSZ'
        rw [← unhide HNX] at this
        simp only
        omega
    · have h0 : n = 643 := by omega
      subst h0
      have h1 : 9000 ≤ (mk (repL 643)).size := by rw [unhide HSZ]; omega
      have h2 : ((mk (repL 643)).extract 0 9000).size = 9000 := lngB_size
      have HL : Hid ((mk (repL 643)).extract 0 9000 = lngB) := rfl
      generalize mk (repL 643) = s at *
      obtain ⟨i0, hi, hz0, hz1, _⟩ := info_parts Try.infoPch
      go_wp2_with fail
      refine wp_buildSlice 42 50 33 _ rfl (pchV (s.extract 0 9000) (s.extract 0 9000 ++ ⟨#[10]⟩)) i0 _ Try.underlying42 hi hz0 (by rw [hz1]; decide) (by rw [hz1]; decide) (by rw [hz1]; kernel_rfl) ?_
      rw [unhide HL]
      go_wp2_with fail
      go_ret
      exact ⟨(unhide HB).alloc hszB _, _, rfl, heap_alloc_new _ _⟩

/-- Which of n things a number speaks of. -/
def pickN (c : Int) (n : Int) : Int := (if c < 0 then -(c + 1) else c) % n
set_option maxHeartbeats 1600000 in
theorem pick_any (c n : Int) (w : World) (h1 : -9223372036854775808 ≤ c) (h2 : c ≤ 9223372036854775807) (hn : 0 < n) (hn2 : n ≤ 1000) : Calls Try.prog 21 #[.int .i64 c, .int .i64 n] w fun e w' => e = .returned (.int .i64 (pickN c n)) ∧ Below w.heap.size w w' := by
  have hne : (n == 0) = false := by simp; omega
  go_enter Try.func21, Try.ntmps21
  by_cases hc : c < 0
  · have hp : pickN c n = (-(c + 1)) % n := by rw [pickN, if_pos hc]
    have e1 : (-(c + 1)).tmod n = (-(c + 1)) % n := Int.tmod_eq_emod_of_nonneg (by omega)
    have b1 := Int.emod_nonneg (-(c + 1)) (show n ≠ 0 by omega)
    have b2 := Int.emod_lt_of_pos (-(c + 1)) hn
    go_wp2_with fail
    go_ret
    exact ⟨ret_int (by first | rfl | exact hp.symm | rw [hp, ← e1]), Below.refl _ _⟩
  · have hp : pickN c n = c % n := by rw [pickN, if_neg hc]
    have e1 : c.tmod n = c % n := Int.tmod_eq_emod_of_nonneg (by omega)
    have b1 := Int.emod_nonneg c (show n ≠ 0 by omega)
    have b2 := Int.emod_lt_of_pos c hn
    go_wp2_with fail
    go_ret
    exact ⟨ret_int (by first | rfl | exact hp.symm | rw [hp, ← e1]), Below.refl _ _⟩

end Go.Proofs.Ytdaneedflpfeaaa
