import Derived.Test.YtdaneedflpfeaaaDoorBytes
namespace Go.Proofs.YtdaneedflpfeaaaDoor
set_option maxRecDepth 100000
open Go.RowKit

/-- The byte at a place; -1 behind the end. -/
def bt (s : ByteArray) (i : Nat) : Int := if h : i < s.size then ((s[i]'h).toNat : Int) else -1
theorem bt_in {s : ByteArray} {i : Nat} (h : i < s.size) : bt s i = ((s[i]'h).toNat : Int) := by simp [bt, h]
theorem bt_out {s : ByteArray} {i : Nat} (h : s.size ≤ i) : bt s i = -1 := by simp [bt]; omega
theorem bt_hi (s : ByteArray) (i : Nat) : bt s i ≤ 255 := by
  unfold bt; split
  · have := (s[i]'‹_›).toNat_lt; omega
  · omega
theorem bt_lo {s : ByteArray} {i : Nat} (h : i < s.size) : 0 ≤ bt s i := by rw [bt_in h]; omega
theorem bt_neg {s : ByteArray} {i : Nat} (h : 0 ≤ bt s i) : i < s.size := by
  by_cases g : i < s.size
  · exact g
  · rw [bt_out (by omega)] at h; omega

def pairB (s : ByteArray) (i : Nat) (a b : Int) : Bool := bt s i == a && bt s (i + 1) == b
def runE (f : Int → Bool) (s : ByteArray) (i : Nat) : Nat := if h : i < s.size ∧ f (bt s i) = true then runE f s (i + 1) else i
  termination_by s.size - i
theorem runE_yes {f : Int → Bool} {s : ByteArray} {i : Nat} (h : i < s.size) (g : f (bt s i) = true) : runE f s i = runE f s (i + 1) := by rw [runE]; simp [h, g]
theorem runE_no {f : Int → Bool} {s : ByteArray} {i : Nat} (h : i < s.size → f (bt s i) = false) : runE f s i = i := by
  rw [runE]; split
  · rename_i hh; rw [h hh.1] at hh; simp at hh
  · rfl
theorem runE_ge (f : Int → Bool) (s : ByteArray) (i : Nat) : i ≤ runE f s i := by
  induction i using runE.induct f s with
  | case1 i h ih => rw [runE_yes h.1 h.2]; omega
  | case2 i h => rw [runE_no (fun g => by cases hh : f (bt s i) with | false => rfl | true => exact absurd ⟨g, hh⟩ h)]; exact Nat.le_refl i
theorem runE_le (f : Int → Bool) (s : ByteArray) (i : Nat) (hi : i ≤ s.size) : runE f s i ≤ s.size := by
  induction i using runE.induct f s with
  | case1 i h ih => rw [runE_yes h.1 h.2]; exact ih (by omega)
  | case2 i h => rw [runE_no (fun g => by cases hh : f (bt s i) with | false => rfl | true => exact absurd ⟨g, hh⟩ h)]; exact hi
def noLf (c : Int) : Bool := c != 10
def closeE (s : ByteArray) (i : Nat) : Option Nat := if _h : i < s.size then (if pairB s i 42 47 then some (i + 2) else closeE s (i + 1)) else none
  termination_by s.size - i
def commentE (s : ByteArray) (i : Nat) : Nat := (closeE s (i + 2)).getD i
def pieceE (s : ByteArray) (i : Nat) : Nat :=
  if s.size ≤ i then i else if blankB (bt s i) then i + 1 else if pairB s i 47 47 then runE noLf s i else if pairB s i 47 42 then commentE s i else i
def aheadE (s : ByteArray) (i : Nat) : Nat := if _h : i < pieceE s i ∧ i < s.size then aheadE s (pieceE s i) else i
  termination_by s.size - i

theorem closeE_some {s : ByteArray} {i j : Nat} (h : closeE s i = some j) : i + 2 ≤ j ∧ j ≤ s.size := by
  induction i using closeE.induct s with
  | case1 i hi hp => rw [closeE] at h; simp [hi, hp] at h; subst h; simp [pairB] at hp; have := bt_neg (s := s) (i := i + 1) (by rw [hp.2]; decide); omega
  | case2 i hi hp ih => rw [closeE] at h; simp [hi, hp] at h; have := ih h; omega
  | case3 i hi => rw [closeE] at h; simp [hi] at h
theorem commentE_bd (s : ByteArray) (i : Nat) (h : i ≤ s.size) : i ≤ commentE s i ∧ commentE s i ≤ s.size := by
  unfold commentE
  cases hc : closeE s (i + 2) with
  | none => simp; omega
  | some j => have := closeE_some hc; simp; omega
theorem pieceE_bd (s : ByteArray) (i : Nat) (h : i ≤ s.size) : i ≤ pieceE s i ∧ pieceE s i ≤ s.size := by
  unfold pieceE
  have := runE_ge noLf s i; have := runE_le noLf s i h; have := commentE_bd s i h
  repeat' split
  all_goals omega
theorem pieceE_out {s : ByteArray} {i : Nat} (h : s.size ≤ i) : pieceE s i = i := by simp [pieceE, h]
theorem aheadE_bd (s : ByteArray) (i : Nat) (h : i ≤ s.size) : i ≤ aheadE s i ∧ aheadE s i ≤ s.size := by
  induction i using aheadE.induct s with
  | case1 i hi ih => rw [aheadE]; simp only [hi, and_self, dite_true]; have := pieceE_bd s i h; have := ih (by omega); omega
  | case2 i hi => rw [aheadE]; simp only [hi, dite_false]; omega
theorem aheadE_go {s : ByteArray} {i : Nat} (hi : i < pieceE s i) : aheadE s i = aheadE s (pieceE s i) := by
  rw [aheadE]
  have : i < s.size := by by_cases h : i < s.size; exact h; rw [pieceE_out (by omega)] at hi; omega
  simp [hi, this]
theorem aheadE_stop {s : ByteArray} {i : Nat} (hi : ¬ i < pieceE s i) : aheadE s i = i := by rw [aheadE]; simp [hi]

set_option maxHeartbeats 400000 in
theorem isPair_any (s : ByteArray) (i : Int) (a b : Int) (w : World) (hs : s.size ≤ 600) (h0 : 0 ≤ i) (h1 : i ≤ s.size) (hb : 0 ≤ b) :
    Calls Tryd.prog 69 #[.string s, .int .i64 i, .int .u8 a, .int .u8 b] w fun e w' => e = .returned (.bool (pairB s i.toNat a b)) ∧ w' = w := by
  obtain ⟨k, rfl⟩ := Int.eq_ofNat_of_zero_le h0
  rw [Int.toNat_natCast]
  by_cases hlt : k + 1 < s.size
  · have hlt0 : k < s.size := by omega
    have e0 := bt_in hlt0
    have e1 := bt_in hlt
    have E0 := hide e0
    have E1 := hide e1
    clear e0 e1
    go_enter Tryd.func69, Tryd.ntmps69
    go_wp2
    · go_ret
      exact ⟨ret_bool (by unfold pairB; rw [unhide E0, unhide E1]; simp [*]), rfl⟩
    · go_ret
      exact ⟨ret_bool (by unfold pairB; rw [unhide E0, unhide E1]; simp [*]), rfl⟩
  · have e1 := bt_out (s := s) (i := k + 1) (by omega)
    have E1 := hide e1
    clear e1
    go_enter Tryd.func69, Tryd.ntmps69
    go_wp2
    go_ret
    exact ⟨ret_bool (by unfold pairB; rw [unhide E1]; simp; intro _; omega), rfl⟩

set_option maxHeartbeats 400000 in
theorem lineEnd_any (s : ByteArray) (i : Int) (w : World) (hs : s.size ≤ 600) (h0 : 0 ≤ i) (h1 : i ≤ s.size) :
    Calls Tryd.prog 70 #[.string s, .int .i64 i] w fun e w' => e = .returned (.int .i64 (runE noLf s i.toNat)) ∧ w' = w := by
  obtain ⟨k0, rfl⟩ := Int.eq_ofNat_of_zero_le h0
  rw [Int.toNat_natCast]
  go_enter Tryd.func70, Tryd.ntmps70
  go_wp2
  go_loop [5] (fun i => ∃ k : Nat, k ≤ s.size ∧ i = .int .i64 k ∧ runE noLf s k = runE noLf s k0) (fun i => s.size - (intOf i).toNat)
  case atStart => exact ⟨k0, by omega, rfl, rfl⟩
  case round =>
    obtain ⟨k, hk, rfl, hE⟩ := hrel
    have HE : Hid (runE noLf s k = runE noLf s k0) := hE
    clear hE
    by_cases hlt : k < s.size
    · have E0 := hide (bt_in hlt)
      go_wp2
      · have h := ‹((s[k].toNat : Int) != 10) = true›
        go_round
        case rel => exact ⟨k + 1, by omega, by go_num, by rw [← unhide HE, runE_yes hlt (by rw [unhide E0]; exact h)]⟩
        case measure => simp [intOf]; omega
      · have h := ‹((s[k].toNat : Int) != 10) = false›
        go_ret
        exact ⟨ret_int (by rw [← unhide HE, runE_no (fun _ => by rw [unhide E0]; exact h)]), rfl⟩
    · go_wp2
      go_ret
      exact ⟨ret_int (by rw [← unhide HE, runE_no (fun h => absurd h hlt)]), rfl⟩

set_option maxHeartbeats 400000 in
theorem wordEnd_any (s : ByteArray) (i : Int) (w : World) (hs : s.size ≤ 600) (h0 : 0 ≤ i) (h1 : i ≤ s.size) :
    Calls Tryd.prog 55 #[.string s, .int .i64 i] w fun e w' => e = .returned (.int .i64 (runE wordB s i.toNat)) ∧ w' = w := by
  obtain ⟨k0, rfl⟩ := Int.eq_ofNat_of_zero_le h0
  rw [Int.toNat_natCast]
  go_enter Tryd.func55, Tryd.ntmps55
  go_wp2
  go_loop [5] (fun i => ∃ k : Nat, k ≤ s.size ∧ i = .int .i64 k ∧ runE wordB s k = runE wordB s k0) (fun i => s.size - (intOf i).toNat)
  case atStart => exact ⟨k0, by omega, rfl, rfl⟩
  case round =>
    obtain ⟨k, hk, rfl, hE⟩ := hrel
    have HE : Hid (runE wordB s k = runE wordB s k0) := hE
    clear hE
    by_cases hlt : k < s.size
    · have E0 := hide (bt_in hlt)
      have hb : ((s[k].toNat : Nat) : Int) ≤ 255 := by have := s[k].toNat_lt; omega
      go_wp2_with (go_at_call 72; refine (isWordByte_any _ _ (by omega) (by omega)).mono ?_; rintro e w' ⟨rfl, rfl⟩)
      · have h := ‹wordB (s[k].toNat : Int) = true›
        go_round
        case rel => exact ⟨k + 1, by omega, by go_num, by rw [← unhide HE, runE_yes hlt (by rw [unhide E0]; exact h)]⟩
        case measure => simp [intOf]; omega
      · have h := ‹wordB (s[k].toNat : Int) = false›
        go_ret
        exact ⟨ret_int (by rw [← unhide HE, runE_no (fun _ => by rw [unhide E0]; exact h)]), rfl⟩
    · go_wp2_with fail
      go_ret
      exact ⟨ret_int (by rw [← unhide HE, runE_no (fun h => absurd h hlt)]), rfl⟩

set_option maxHeartbeats 400000 in
theorem numberEnd_any (s : ByteArray) (i : Int) (w : World) (hs : s.size ≤ 600) (h0 : 0 ≤ i) (h1 : i ≤ s.size) :
    Calls Tryd.prog 57 #[.string s, .int .i64 i] w fun e w' => e = .returned (.int .i64 (runE digitB s i.toNat)) ∧ w' = w := by
  obtain ⟨k0, rfl⟩ := Int.eq_ofNat_of_zero_le h0
  rw [Int.toNat_natCast]
  go_enter Tryd.func57, Tryd.ntmps57
  go_wp2
  go_loop [5] (fun i => ∃ k : Nat, k ≤ s.size ∧ i = .int .i64 k ∧ runE digitB s k = runE digitB s k0) (fun i => s.size - (intOf i).toNat)
  case atStart => exact ⟨k0, by omega, rfl, rfl⟩
  case round =>
    obtain ⟨k, hk, rfl, hE⟩ := hrel
    have HE : Hid (runE digitB s k = runE digitB s k0) := hE
    clear hE
    by_cases hlt : k < s.size
    · have E0 := hide (bt_in hlt)
      have hb : ((s[k].toNat : Nat) : Int) ≤ 255 := by have := s[k].toNat_lt; omega
      go_wp2_with (go_at_call 56; refine (isDigit_any _ _ (by omega) (by omega)).mono ?_; rintro e w' ⟨rfl, rfl⟩)
      · have h := ‹digitB (s[k].toNat : Int) = true›
        go_round
        case rel => exact ⟨k + 1, by omega, by go_num, by rw [← unhide HE, runE_yes hlt (by rw [unhide E0]; exact h)]⟩
        case measure => simp [intOf]; omega
      · have h := ‹digitB (s[k].toNat : Int) = false›
        go_ret
        exact ⟨ret_int (by rw [← unhide HE, runE_no (fun _ => by rw [unhide E0]; exact h)]), rfl⟩
    · go_wp2_with fail
      go_ret
      exact ⟨ret_int (by rw [← unhide HE, runE_no (fun h => absurd h hlt)]), rfl⟩

set_option maxHeartbeats 400000 in
theorem commentEnd_any (s : ByteArray) (i : Int) (w : World) (hs : s.size ≤ 600) (h0 : 0 ≤ i) (h1 : i ≤ s.size) :
    Calls Tryd.prog 71 #[.string s, .int .i64 i] w fun e w' => e = .returned (.int .i64 (commentE s i.toNat)) ∧ w' = w := by
  obtain ⟨k0, rfl⟩ := Int.eq_ofNat_of_zero_le h0
  rw [Int.toNat_natCast]
  go_enter Tryd.func71, Tryd.ntmps71
  go_wp2
  go_loop [5] (fun i => ∃ k : Nat, k ≤ s.size + 2 ∧ i = .int .i64 k ∧ closeE s k = closeE s (k0 + 2)) (fun i => s.size + 2 - (intOf i).toNat)
  case atStart => exact ⟨k0 + 2, by omega, by go_num, rfl⟩
  case round =>
    obtain ⟨k, hk, rfl, hE⟩ := hrel
    have HE : Hid (closeE s k = closeE s (k0 + 2)) := hE
    clear hE
    by_cases hlt : k < s.size
    · have C := hide (closeE.eq_1 s k)
      go_wp2_with (go_at_call 69; refine (isPair_any _ _ _ _ _ hs (by omega) (by omega) (by omega)).mono ?_; rintro e w' ⟨rfl, rfl⟩)
      all_goals (try rw [Int.toNat_natCast] at *)
      · have h := ‹pairB s k 42 47 = true›
        go_ret
        exact ⟨ret_int (by unfold commentE; rw [← unhide HE, unhide C]; simp [hlt, h]), rfl⟩
      · have h := ‹pairB s k 42 47 = false›
        go_round
        case rel => exact ⟨k + 1, by omega, by go_num, by rw [← unhide HE, unhide C]; simp [hlt, h]⟩
        case measure => simp [intOf]; omega
    · have C := hide (closeE.eq_1 s k)
      go_wp2_with fail
      go_ret
      exact ⟨ret_int (by unfold commentE; rw [← unhide HE, unhide C]; simp [hlt]), rfl⟩

end Go.Proofs.YtdaneedflpfeaaaDoor
