import Derived.Test.YtabafeckdclekaaDistH
import Derived.Test.YtabafeckdclekaaOut
namespace Go.Proofs.Ytabafeckdclekaa
set_option maxRecDepth 100000
open Go.RowKit

set_option maxHeartbeats 1600000 in
theorem fewestSteps_any (L M : List Nd) (gf cf gt ct : Nat) (w : World) (hL0 : 0 < L.length) (hM0 : 0 < M.length) (hLl : L.length ≤ 1000) (hMl : M.length ≤ 1000) (hL : NA w gf 0 L) (hM : NA w gt 0 M) :
    Calls Try.prog 25 #[.slice (some ⟨gf, 0, none⟩) L.length cf, .slice (some ⟨gt, 0, none⟩) M.length ct] w fun e w' => e = .returned (.int .i64 (dB L M 0 0)) ∧ Below w.heap.size w w' := by
  have HC := hide (compare_any L M gf cf gt ct w hL0 hM0 hLl hMl hL hM)
  clear hL hM
  go_enter Try.func25, Try.ntmps25
  go_wp2_with fail
  refine (unhide HC).mono ?_
  rintro e w1 ⟨hB, ge, ce, gu, cu, gb, cb, B, h, F, rfl, hc, hF⟩
  unfold cmpV
  have hal : Below w1.heap.size w1 (w1.alloc (.cells #[.slice (some ⟨gf, 0, none⟩) L.length cf, .slice (some ⟨gt, 0, none⟩) M.length ct, .slice (some ⟨ge, 0, none⟩) L.length ce, .slice (some ⟨gu, 0, none⟩) M.length cu, .slice (some ⟨gb, 0, none⟩) L.length cb] 73 (0, 0))) := (Below.refl _ _).alloc (Nat.le_refl _) _
  have ht := hc.tab.all hal
  have o1 := ht.outer 0 hL0
  have o2 := ht.cell (r := 0) (c := 0) hL0 hM0
  rw [hF 0 0 hL0 hM0] at o2
  have HB := hide (hB.trans (hal.mono hB.size))
  clear hB hc hF hal ht HC
  go_wp2_with fail
  go_ret
  exact ⟨rfl, unhide HB⟩

theorem ok_length {s : ByteArray} {nodes : List Nd} (h : outT s = .ok nodes) : 0 < nodes.length ∧ nodes.length ≤ 80 := by
  obtain ⟨l, j, _, hp, rfl, h2, _⟩ := outT_mod h
  obtain ⟨l1, l2, k, rfl, _⟩ := parseT_node hp
  rw [List.length_map]
  exact ⟨by simp [nodeR], h2⟩
/-- What Dist answers. -/
def distT (a b : ByteArray) : Int × Int := match outT a with
  | .err c _ => (0, c)
  | .ok L => match outT b with
    | .err c _ => (0, c)
    | .ok M => (dB L M 0 0, 0)

set_option maxHeartbeats 1600000 in
theorem dist_any (a b : ByteArray) (w : World) :
    Calls Try.prog 13 #[.string a, .string b] w fun e w' => e = .returned (.tuple #[.int .i64 (distT a b).1, .int .i64 (distT a b).2]) ∧ Below w.heap.size w w' := by
  have HRA := hide (read_all a w)
  have HRB := hide (fun w1 => read_all b w1)
  cases ha : outT a with
  | err c p =>
    rw [ha] at HRA
    have hd : distT a b = (0, c) := by rw [distT, ha]
    rw [hd]
    have hc : (c != 0) = true := bne_iff_ne.2 (outT_ne ha).1
    clear ha hd
    go_enter Try.func13, Try.ntmps13
    go_wp2_with fail
    refine (unhide HRA).mono ?_
    rintro e w1 ⟨hB, rfl⟩
    have HB := hide hB
    clear hB
    go_wp2_with fail
    go_ret2
    exact ⟨rfl, unhide HB⟩
  | ok L =>
    rw [ha] at HRA
    have hLl := ok_length ha
    cases hb : outT b with
    | err c p =>
      have HRB' : Hid (∀ w1, Calls Try.prog 22 #[.string b] w1 fun e w' => RPost w1 (.err c p) e w') := fun w1 => by have := unhide HRB w1; rw [hb] at this; exact this
      have hd : distT a b = (0, c) := by rw [distT, ha, hb]
      rw [hd]
      have hc : (c != 0) = true := bne_iff_ne.2 (outT_ne hb).1
      clear ha hb hd HRB
      go_enter Try.func13, Try.ntmps13
      go_wp2_with fail
      refine (unhide HRA).mono ?_
      rintro e w1 ⟨hB, g1, cap1, rfl, hg1, hown⟩
      have HB := hide hB
      clear hB hown
      go_wp2_with fail
      refine (unhide HRB' _).mono ?_
      rintro e w2 ⟨hB2, rfl⟩
      have HB2 := hide ((unhide HB).trans (hB2.mono (unhide HB).size))
      clear hB2
      go_wp2_with fail
      go_ret2
      exact ⟨rfl, unhide HB2⟩
    | ok M =>
      have HRB' : Hid (∀ w1, Calls Try.prog 22 #[.string b] w1 fun e w' => RPost w1 (.ok M) e w') := fun w1 => by have := unhide HRB w1; rw [hb] at this; exact this
      have hd : distT a b = (dB L M 0 0, 0) := by rw [distT, ha, hb]
      rw [hd]
      have hMl := ok_length hb
      clear ha hb hd HRB
      go_enter Try.func13, Try.ntmps13
      go_wp2_with fail
      refine (unhide HRA).mono ?_
      rintro e w1 ⟨hB, g1, cap1, rfl, hg1, hown⟩
      have HB := hide hB
      have HN := hide (NA.of_own hown hg1 rfl)
      clear hB hown
      go_wp2_with fail
      refine (unhide HRB' _).mono ?_
      rintro e w2 ⟨hB2, g2, cap2, rfl, hg2, hown2⟩
      have HB2 := hide ((unhide HB).trans (hB2.mono (unhide HB).size))
      have HN2 := hide ((unhide HN).below hB2 hg1)
      have HM2 := hide (NA.of_own hown2 hg2 rfl)
      clear hB2 hown2 HN
      go_wp2_with fail
      refine (fewestSteps_any L M g1 cap1 g2 cap2 w2 hLl.1 hMl.1 (by omega) (by omega) (unhide HN2) (unhide HM2)).mono ?_
      rintro e w3 ⟨rfl, hB3⟩
      have HB3 := hide ((unhide HB2).trans (hB3.mono (unhide HB2).size))
      clear hB3
      go_wp2_with fail
      go_ret2
      exact ⟨rfl, unhide HB3⟩

end Go.Proofs.Ytabafeckdclekaa
