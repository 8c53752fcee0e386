import Derived.Test.YtdaneedflpfeaaaDoorScan2
import Derived.Lib.Strings
namespace Go.Proofs.YtdaneedflpfeaaaDoor
set_option maxRecDepth 100000
open Go.RowKit

set_option maxHeartbeats 400000 in
theorem alpha_any (c : Int) (w : World) (h0 : 0 ≤ c) (h1 : c ≤ 255) :
    Calls Tryd.prog 30 #[.int .u8 c] w fun e w' => e = .returned (.bool (letterB c)) ∧ w' = w := by
  go_enter Tryd.func30, Tryd.ntmps30
  go_wp2
  all_goals go_ret
  all_goals exact ⟨ret_bool (by rw [Bool.eq_iff_iff]; first | (simp [letterB]; done) | (simp [letterB]; omega) | (simp at *; simp [letterB]; omega)), rfl⟩
set_option maxHeartbeats 400000 in
theorem num_any (c : Int) (w : World) (h0 : 0 ≤ c) (h1 : c ≤ 255) :
    Calls Tryd.prog 31 #[.int .u8 c] w fun e w' => e = .returned (.bool (digitB c)) ∧ w' = w := by
  go_enter Tryd.func31, Tryd.ntmps31
  go_wp2
  all_goals go_ret
  all_goals exact ⟨ret_bool (by rw [Bool.eq_iff_iff]; first | (simp [digitB]; done) | (simp [digitB]; omega) | (simp at *; simp [digitB]; omega)), rfl⟩

def beginsB (s : ByteArray) (i : Nat) (t : ByteArray) : Bool := decide (i + t.size ≤ s.size) && (s.extract i (i + t.size)).toList == t.toList
set_option maxHeartbeats 400000 in
theorem begins_any (s t : ByteArray) (i : Int) (w : World) (hs : s.size ≤ 600) (ht : t.size ≤ 600) (h0 : 0 ≤ i) (h1 : i ≤ 1000) :
    Calls Tryd.prog 32 #[.string s, .int .i64 i, .string t] w fun e w' => e = .returned (.bool (beginsB s i.toNat t)) ∧ w' = w := by
  obtain ⟨k, rfl⟩ := Int.eq_ofNat_of_zero_le h0
  rw [Int.toNat_natCast]
  by_cases hlt : k + t.size ≤ s.size
  · have HF : Hid (beginsB s k t = ((s.extract k (k + t.size)).toList == t.toList)) := by show beginsB s k t = _; simp [beginsB, hlt]
    have hkt : ((k : Int) + (t.size : Int)).toNat = k + t.size := by omega
    go_enter Tryd.func32, Tryd.ntmps32
    go_wp2
    go_ret
    exact ⟨ret_bool (by rw [unhide HF]), rfl⟩
  · have HF : Hid (beginsB s k t = false) := by show beginsB s k t = _; simp [beginsB, hlt]
    go_enter Tryd.func32, Tryd.ntmps32
    go_wp2
    go_ret
    exact ⟨ret_bool (by rw [unhide HF]), rfl⟩

theorem ext2 (s : ByteArray) (k : Nat) (h : k + 2 ≤ s.size) : (s.extract k (k + 2)).toList = [s[k], s[k + 1]] := by
  rw [Lib.extract_toList, show k + 2 - k = 2 from by omega, List.drop_eq_getElem_cons (by show k < s.size; omega), List.drop_eq_getElem_cons (by show k + 1 < s.size; omega)]
  rfl
theorem begins_pair (s : ByteArray) (k : Nat) (a b : UInt8) : beginsB s k ⟨#[a, b]⟩ = pairB s k (a.toNat : Int) (b.toNat : Int) := by
  have hsz : (⟨#[a, b]⟩ : ByteArray).size = 2 := rfl
  have hl : (⟨#[a, b]⟩ : ByteArray).toList = [a, b] := by rw [Go.ByteArray.toList_eq]
  unfold beginsB pairB
  rw [hsz, hl]
  by_cases h : k + 2 ≤ s.size
  · rw [ext2 s k h, bt_in (show k < s.size by omega), bt_in (show k + 1 < s.size by omega), Bool.eq_iff_iff]
    simp [h, ← UInt8.toNat_inj]
    omega
  · have : bt s (k + 1) = -1 := bt_out (by omega)
    rw [this]
    have hb : ((-1 : Int) == (b.toNat : Int)) = false := by rw [beq_eq_false_iff_ne]; omega
    simp [h, hb]

/-- What skip answers: the place behind blanks and comments; -1 where a comment has no end. -/
def skipI (s : ByteArray) (p : Nat) : Int := if p < s.size ∧ pairB s p 47 42 = true then -1 else p

theorem closeE_step {s : ByteArray} {i : Nat} (hi : i < s.size) (hp : pairB s i 42 47 = false) : closeE s i = closeE s (i + 1) := by rw [closeE]; simp [hi, hp]
theorem closeE_hit {s : ByteArray} {i : Nat} (hi : i < s.size) (hp : pairB s i 42 47 = true) : closeE s i = some (i + 2) := by rw [closeE]; simp [hi, hp]
theorem closeE_out {s : ByteArray} {i : Nat} (hi : ¬ i < s.size) : closeE s i = none := by rw [closeE]; simp [hi]

set_option maxHeartbeats 3200000 in
set_option maxRecDepth 100000 in
theorem skip_any (s : ByteArray) (i : Int) (w : World) (hs : s.size ≤ 600) (h0 : 0 ≤ i) (h1 : i ≤ s.size) :
    Calls Tryd.prog 29 #[.string s, .int .i64 i] w fun e w' => e = .returned (.tuple #[.int .i64 (skipI s (aheadE s i.toNat)), .int .i64 (aheadE s i.toNat)]) ∧ w' = w := by
  obtain ⟨k0, rfl⟩ := Int.eq_ofNat_of_zero_le h0
  rw [Int.toNat_natCast]
  go_enter Tryd.func29, Tryd.ntmps29
  go_wp2
  go_loop [1, 6, 7] (fun i _ _ => ∃ k : Nat, k ≤ s.size ∧ i = .int .i64 k ∧ Hid (aheadE s k = aheadE s k0)) (fun i _ _ => s.size - (intOf i).toNat)
  case atStart => exact ⟨k0, by omega, rfl, rfl⟩
  case round =>
    obtain ⟨k, hk, rfl, HE⟩ := hrel
    by_cases hlt : k < s.size
    · have E0 := hide (bt_in hlt)
      have hb1 : ((s[k].toNat : Nat) : Int) ≤ 255 := by have := s[k].toNat_lt; omega
      have HG := hide (fun (h : k < pieceE s k) => aheadE_go h)
      have HS := hide (fun (h : ¬ k < pieceE s k) => aheadE_stop h)
      have HP : Hid (pieceE s k = if blankB (bt s k) then k + 1 else if pairB s k 47 47 then runE noLf s k else if pairB s k 47 42 then commentE s k else k) := by show pieceE s k = _; unfold pieceE; rw [if_neg (by omega)]
      have B1 : beginsB s k ⟨#[47, 47]⟩ = pairB s k 47 47 := begins_pair s k 47 47
      have B2 : beginsB s k ⟨#[47, 42]⟩ = pairB s k 47 42 := begins_pair s k 47 42
      cases hbl : blankB (s[k].toNat : Int) with
      | true =>
        have HP1 : Hid (pieceE s k = k + 1) := by show pieceE s k = _; rw [unhide HP, unhide E0, hbl]; rfl
        have HA : Hid (aheadE s (k + 1) = aheadE s k0) := by show aheadE s (k + 1) = _; rw [← unhide HE, unhide HG (by rw [unhide HP1]; omega), unhide HP1]
        have hor : (s[k].toNat : Int) = 32 ∨ (s[k].toNat : Int) = 9 ∨ (s[k].toNat : Int) = 10 ∨ (s[k].toNat : Int) = 13 := by simpa [blankB] using hbl
        clear hbl B1 B2
        rcases hor with h | h | h | h
        · have q0 : ((s[k].toNat : Int) == 32) = true := by simp [h]
          clear h
          go_wp2_with fail
          go_round
          case rel => exact ⟨k + 1, by omega, by go_num, HA⟩
          case measure => simp [intOf]; omega
        · have q0 : ((s[k].toNat : Int) == 32) = false := by simp [h]
          have q1 : ((s[k].toNat : Int) == 9) = true := by simp [h]
          clear h
          go_wp2_with fail
          go_round
          case rel => exact ⟨k + 1, by omega, by go_num, HA⟩
          case measure => simp [intOf]; omega
        · have q0 : ((s[k].toNat : Int) == 32) = false := by simp [h]
          have q1 : ((s[k].toNat : Int) == 9) = false := by simp [h]
          have q2 : ((s[k].toNat : Int) == 10) = true := by simp [h]
          clear h
          go_wp2_with fail
          go_round
          case rel => exact ⟨k + 1, by omega, by go_num, HA⟩
          case measure => simp [intOf]; omega
        · have q0 : ((s[k].toNat : Int) == 32) = false := by simp [h]
          have q1 : ((s[k].toNat : Int) == 9) = false := by simp [h]
          have q2 : ((s[k].toNat : Int) == 10) = false := by simp [h]
          have q3 : ((s[k].toNat : Int) == 13) = true := by simp [h]
          clear h
          go_wp2_with fail
          go_round
          case rel => exact ⟨k + 1, by omega, by go_num, HA⟩
          case measure => simp [intOf]; omega
      | false =>
        have hno : ¬ ((s[k].toNat : Int) = 32 ∨ (s[k].toNat : Int) = 9 ∨ (s[k].toNat : Int) = 10 ∨ (s[k].toNat : Int) = 13) := by simpa [blankB] using hbl
        have q0 : ((s[k].toNat : Int) == 32) = false := by rw [beq_eq_false_iff_ne]; exact fun h => hno (.inl h)
        have q1 : ((s[k].toNat : Int) == 9) = false := by rw [beq_eq_false_iff_ne]; exact fun h => hno (.inr (.inl h))
        have q2 : ((s[k].toNat : Int) == 10) = false := by rw [beq_eq_false_iff_ne]; exact fun h => hno (.inr (.inr (.inl h)))
        have q3 : ((s[k].toNat : Int) == 13) = false := by rw [beq_eq_false_iff_ne]; exact fun h => hno (.inr (.inr (.inr h)))
        have HP1 : Hid (pieceE s k = if pairB s k 47 47 then runE noLf s k else if pairB s k 47 42 then commentE s k else k) := by show pieceE s k = _; rw [unhide HP, unhide E0, hbl]; rfl
        clear hno hbl HP
        cases hp1 : pairB s k 47 47 with
        | true =>
          rw [hp1] at B1
          have hnl : ((s[k].toNat : Int) != 10) = true := by simp at q2; simp [q2]
          have HP2 : Hid (pieceE s k = runE noLf s k) := by show pieceE s k = _; rw [unhide HP1, hp1]; rfl
          have hge := runE_ge noLf s (k + 1)
          have hle := runE_le noLf s k hk
          have HR0 : Hid (runE noLf s k = runE noLf s (k + 1)) := runE_yes hlt (by rw [unhide E0]; exact hnl)
          have hgt : k + 1 ≤ runE noLf s k := by rw [unhide HR0]; exact hge
          have HA : Hid (aheadE s (runE noLf s k) = aheadE s k0) := by show aheadE s (runE noLf s k) = _; rw [← unhide HE, unhide HG (by rw [unhide HP2]; omega), unhide HP2]
          clear hp1 hnl HP1 hge HR0
          go_wp2_with (go_at_call 32; refine (begins_any s _ _ _ hs (by decide) (by omega) (by omega)).mono ?_; rintro e w1 ⟨rfl, hw⟩; have hw := hw.symm; subst hw)
          go_loop [1] (fun i => ∃ j : Nat, k ≤ j ∧ j ≤ s.size ∧ i = .int .i64 j ∧ Hid (runE noLf s j = runE noLf s k)) (fun i => s.size - (intOf i).toNat)
          case atStart => exact ⟨k, Nat.le_refl _, hk, rfl, rfl⟩
          case round =>
            obtain ⟨j, hj1, hj2, rfl, HJ⟩ := hrel
            by_cases hjl : j < s.size
            · have E1 := hide (bt_in hjl)
              cases hn : ((s[j].toNat : Int) != 10) with
              | true =>
                have HJ2 : Hid (runE noLf s (j + 1) = runE noLf s k) := by show runE noLf s (j + 1) = _; rw [← unhide HJ, runE_yes hjl (by rw [unhide E1]; exact hn)]
                go_wp2_with fail
                go_round
                case rel => exact ⟨j + 1, by omega, by omega, by go_num, HJ2⟩
                case measure => simp [intOf]; omega
              | false =>
                have HJ2 : Hid (runE noLf s k = j) := by show runE noLf s k = _; rw [← unhide HJ, runE_no (fun _ => by rw [unhide E1]; exact hn)]
                have hjj : k < j := by have := unhide HJ2; omega
                rw [unhide HJ2] at HA
                go_wp2_with fail
                go_round
                case rel => exact ⟨j, by omega, rfl, HA⟩
                case measure => simp [intOf]; omega
            · have HJ2 : Hid (runE noLf s k = j) := by show runE noLf s k = _; rw [← unhide HJ, runE_no (fun h => absurd h hjl)]
              have hjj : k < j := by have := unhide HJ2; omega
              rw [unhide HJ2] at HA
              go_wp2_with fail
              go_round
              case rel => exact ⟨j, by omega, rfl, HA⟩
              case measure => simp [intOf]; omega
        | false =>
          rw [hp1] at B1
          cases hp2 : pairB s k 47 42 with
          | false =>
            rw [hp2] at B2
            have HP2 : Hid (pieceE s k = k) := by show pieceE s k = _; rw [unhide HP1, hp1, hp2]; rfl
            have HA : Hid (aheadE s k0 = k) := by show aheadE s k0 = _; rw [← unhide HE, unhide HS (by rw [unhide HP2]; omega)]
            have HI : Hid (skipI s (aheadE s k0) = k) := by show skipI s (aheadE s k0) = _; rw [unhide HA]; simp [skipI, hp2]
            clear hp1 hp2 HP1
            go_wp2_with (go_at_call 32; refine (begins_any s _ _ _ hs (by decide) (by omega) (by omega)).mono ?_; rintro e w1 ⟨rfl, hw⟩; have hw := hw.symm; subst hw)
            go_ret2
            rw [unhide HI, unhide HA]
            exact ⟨rfl, rfl⟩
          | true =>
            rw [hp2] at B2
            have HP2 : Hid (pieceE s k = (closeE s (k + 2)).getD k) := by show pieceE s k = _; rw [unhide HP1, hp1, hp2]; rfl
            clear hp1 HP1
            go_wp2_with (go_at_call 32; refine (begins_any s _ _ _ hs (by decide) (by omega) (by omega)).mono ?_; rintro e w1 ⟨rfl, hw⟩; have hw := hw.symm; subst hw)
            go_loop [6, 7] (fun e i => ∃ j : Nat, k + 2 ≤ j ∧ j ≤ s.size + 2 ∧ i = .int .i64 j ∧ ((e = .int .i64 (-1) ∧ Hid (closeE s j = closeE s (k + 2))) ∨ ∃ m : Nat, e = .int .i64 m ∧ Hid (closeE s (k + 2) = some m))) (fun _ i => s.size + 2 - (intOf i).toNat)
            case atStart => exact ⟨k + 2, Nat.le_refl _, by omega, by go_num, .inl ⟨rfl, rfl⟩⟩
            case round =>
              obtain ⟨j, hj1, hj2, rfl, hcase⟩ := hrel
              rcases hcase with ⟨rfl, HJ⟩ | ⟨m, rfl, HM⟩
              · by_cases hjl : j < s.size
                · have B3 : beginsB s j ⟨#[42, 47]⟩ = pairB s j 42 47 := begins_pair s j 42 47
                  cases hpj : pairB s j 42 47 with
                  | true =>
                    rw [hpj] at B3
                    have HM : Hid (closeE s (k + 2) = some (j + 2)) := by show closeE s (k + 2) = _; rw [← unhide HJ, closeE_hit hjl hpj]
                    go_wp2_with (go_at_call 32; refine (begins_any s _ _ _ hs (by decide) (by omega) (by omega)).mono ?_; rintro e w1 ⟨rfl, hw⟩; have hw := hw.symm; subst hw)
                    go_round
                    case rel => exact ⟨j + 1, by omega, by omega, by go_num, .inr ⟨j + 2, by go_num, HM⟩⟩
                    case measure => simp [intOf]; omega
                  | false =>
                    rw [hpj] at B3
                    have HJ2 : Hid (closeE s (j + 1) = closeE s (k + 2)) := by show closeE s (j + 1) = _; rw [← unhide HJ, closeE_step hjl hpj]
                    go_wp2_with (go_at_call 32; refine (begins_any s _ _ _ hs (by decide) (by omega) (by omega)).mono ?_; rintro e w1 ⟨rfl, hw⟩; have hw := hw.symm; subst hw)
                    go_round
                    case rel => exact ⟨j + 1, by omega, by omega, by go_num, .inl ⟨rfl, HJ2⟩⟩
                    case measure => simp [intOf]; omega
                · have HA : Hid (aheadE s k0 = k) := by
                    show aheadE s k0 = _
                    rw [← unhide HE, unhide HS]
                    rw [unhide HP2, ← unhide HJ, closeE_out hjl]; simp
                  have HI : Hid (skipI s (aheadE s k0) = -1) := by show skipI s (aheadE s k0) = _; rw [unhide HA]; simp [skipI, hp2, hlt]
                  clear hp2
                  go_wp2_with fail
                  go_ret2
                  rw [unhide HI, unhide HA]
                  exact ⟨rfl, rfl⟩
              · have hcl := closeE_some (unhide HM)
                have HA : Hid (aheadE s m = aheadE s k0) := by
                  show aheadE s m = _
                  have hpm : pieceE s k = m := by rw [unhide HP2, unhide HM]; rfl
                  rw [← unhide HE, unhide HG (by rw [hpm]; omega), hpm]
                clear hp2
                by_cases hjl : j < s.size
                · go_wp2_with fail
                  go_round
                  case rel => exact ⟨m, by omega, rfl, HA⟩
                  case measure => simp [intOf]; omega
                · go_wp2_with fail
                  go_round
                  case rel => exact ⟨m, by omega, rfl, HA⟩
                  case measure => simp [intOf]; omega
    · have HA : Hid (aheadE s k0 = k) := by show aheadE s k0 = _; rw [← unhide HE, aheadE_stop (by rw [pieceE_out (by omega)]; omega)]
      have HI : Hid (skipI s (aheadE s k0) = k) := by show skipI s (aheadE s k0) = _; rw [unhide HA]; simp [skipI, hlt]
      go_wp2_with fail
      go_ret2
      rw [unhide HI, unhide HA]
      exact ⟨rfl, rfl⟩

end Go.Proofs.YtdaneedflpfeaaaDoor
