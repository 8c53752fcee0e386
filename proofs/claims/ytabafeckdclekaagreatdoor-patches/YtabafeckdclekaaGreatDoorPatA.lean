import Derived.Test.YtabafeckdclekaaGreatDoorStr
namespace Go.Proofs.YtabafeckdclekaaGreatDoor
set_option maxRecDepth 100000
open Go.RowKit

set_option maxHeartbeats 400000 in
theorem isPairW_any (s : ByteArray) (i : Int) (a b : Int) (w : World) (hs : s.size ≤ 1000000) (h0 : 0 ≤ i) (h1 : i ≤ s.size) (hb : 0 ≤ b) :
    Calls Tryz.prog 71 #[.string s, .int .i64 i, .int .u8 a, .int .u8 b] w fun e w' => e = .returned (.bool (pairB s i.toNat a b)) ∧ w' = w := by
  obtain ⟨k, rfl⟩ := Int.eq_ofNat_of_zero_le h0
  rw [Int.toNat_natCast]
  by_cases hlt : k + 1 < s.size
  · have hlt0 : k < s.size := by omega
    have e0 := bt_in hlt0
    have e1 := bt_in hlt
    have E0 := hide e0
    have E1 := hide e1
    clear e0 e1
    go_enter Tryz.func71, Tryz.ntmps71
    go_wp2
    · go_ret
      exact ⟨ret_bool (by unfold pairB; rw [unhide E0, unhide E1]; simp [*]), rfl⟩
    · go_ret
      exact ⟨ret_bool (by unfold pairB; rw [unhide E0, unhide E1]; simp [*]), rfl⟩
  · have e1 := bt_out (s := s) (i := k + 1) (by omega)
    have E1 := hide e1
    clear e1
    go_enter Tryz.func71, Tryz.ntmps71
    go_wp2
    go_ret
    exact ⟨ret_bool (by unfold pairB; rw [unhide E1]; simp; intro _; omega), rfl⟩

set_option maxHeartbeats 400000 in
theorem lineEndW_any (s : ByteArray) (i : Int) (w : World) (hs : s.size ≤ 1000000) (h0 : 0 ≤ i) (h1 : i ≤ s.size) :
    Calls Tryz.prog 18 #[.string s, .int .i64 i] w fun e w' => e = .returned (.int .i64 (runE noLf s i.toNat)) ∧ w' = w := by
  obtain ⟨k0, rfl⟩ := Int.eq_ofNat_of_zero_le h0
  rw [Int.toNat_natCast]
  go_enter Tryz.func18, Tryz.ntmps18
  go_wp2
  go_loop [5] (fun i => ∃ k : Nat, k ≤ s.size ∧ i = .int .i64 k ∧ runE noLf s k = runE noLf s k0) (fun i => s.size - (intOf i).toNat)
  case atStart => exact ⟨k0, by omega, rfl, rfl⟩
  case round =>
    obtain ⟨k, hk, rfl, hE⟩ := hrel
    have HE : Hid (runE noLf s k = runE noLf s k0) := hE
    clear hE
    by_cases hlt : k < s.size
    · have E0 := hide (bt_in hlt)
      go_wp2
      · have h := ‹((s[k].toNat : Int) != 10) = true›
        go_round
        case rel => exact ⟨k + 1, by omega, by go_num, by rw [← unhide HE, runE_yes hlt (by rw [unhide E0]; exact h)]⟩
        case measure => simp [intOf]; omega
      · have h := ‹((s[k].toNat : Int) != 10) = false›
        go_ret
        exact ⟨ret_int (by rw [← unhide HE, runE_no (fun _ => by rw [unhide E0]; exact h)]), rfl⟩
    · go_wp2
      go_ret
      exact ⟨ret_int (by rw [← unhide HE, runE_no (fun h => absurd h hlt)]), rfl⟩


/-! ## Bytes as labels write them, read back -/
def hexV (c : Int) : Int := if 48 ≤ c ∧ c ≤ 57 then c - 48 else if 97 ≤ c ∧ c ≤ 102 then c - 87 else -1
theorem hexV_bd (c : Int) : -1 ≤ hexV c ∧ hexV c ≤ 15 := by unfold hexV; split; omega; split <;> omega
theorem hexD_V : ∀ q : Fin 16, hexV ((hexD q.val).toNat : Int) = q.val := by decide
theorem hexV_D {c : UInt8} {k : Nat} (h : hexV (c.toNat : Int) = k) : hexD k = c := by
  have hb := c.toNat_lt
  unfold hexV at h
  apply UInt8.toNat_inj.1
  split at h
  · rw [hexD, if_pos (by omega), UInt8.toNat_ofNat']; omega
  · split at h
    · rw [hexD, if_neg (by omega), UInt8.toNat_ofNat']; omega
    · omega
theorem u8_ne {a b : UInt8} (h : a ≠ b) : ((a.toNat : Int) == (b.toNat : Int)) = false := by
  rw [beq_eq_false_iff_ne]; intro e; exact h (UInt8.toNat_inj.1 (by omega))

set_option maxHeartbeats 800000 in
theorem hexValue_any (c : UInt8) (w : World) :
    Calls Tryz.prog 91 #[.int .u8 (c.toNat : Int)] w fun e w' => e = .returned (.int .i64 (hexV (c.toNat : Int))) ∧ w' = w := by
  have hbd := hexV_bd (c.toNat : Int)
  go_enter Tryz.func91, Tryz.ntmps91
  go_wp2_with fail
  go_loop [3] (fun i => ∃ k : Nat, k ≤ 16 ∧ i = .int .i64 k ∧ (hexV (c.toNat : Int) = -1 ∨ (k : Int) ≤ hexV (c.toNat : Int))) (fun i => 16 - (intOf i).toNat)
  case atStart => exact ⟨0, by omega, rfl, by omega⟩
  case round =>
    obtain ⟨k, hk, rfl, hv⟩ := hrel
    by_cases hlt : k < 16
    · have hE := hex_at k (by show k < 16; omega)
      by_cases heq : hexD k = c
      · have HV : Hid (hexV (c.toNat : Int) = k) := by show _ = _; rw [← heq]; exact hexD_V ⟨k, hlt⟩
        have hq : (((hexS[k]'(by show k < 16; omega)).toNat : Int) == (c.toNat : Int)) = true := by rw [hE, heq]; simp
        clear hE hbd hv
        go_wp2_with fail
        go_ret
        exact ⟨ret_int (unhide HV).symm, rfl⟩
      · have hq : (((hexS[k]'(by show k < 16; omega)).toNat : Int) == (c.toNat : Int)) = false := by rw [hE]; exact u8_ne heq
        have HV : Hid (hexV (c.toNat : Int) ≠ k) := fun h => heq (hexV_D h)
        have HV2 := hide hv
        clear hE hbd hv
        go_wp2_with fail
        go_round
        case rel => exact ⟨k + 1, by omega, by go_num, by have := unhide HV; have := unhide HV2; omega⟩
        case measure => simp [intOf]; omega
    · have HV : Hid (hexV (c.toNat : Int) = -1) := by show _ = _; omega
      clear hv hbd
      go_wp2_with fail
      go_ret
      exact ⟨ret_int (unhide HV).symm, rfl⟩

end Go.Proofs.YtabafeckdclekaaGreatDoor
