import Derived.Test.YtdaneedflpfeaaaDoorScan
namespace Go.Proofs.YtdaneedflpfeaaaDoor
set_option maxRecDepth 100000
open Go.RowKit

set_option maxHeartbeats 800000 in
theorem pieceEnd_any (s : ByteArray) (i : Int) (w : World) (hs : s.size ≤ 600) (h0 : 0 ≤ i) (h1 : i ≤ s.size) :
    Calls Tryd.prog 53 #[.string s, .int .i64 i] w fun e w' => e = .returned (.int .i64 (pieceE s i.toNat)) ∧ w' = w := by
  obtain ⟨k, rfl⟩ := Int.eq_ofNat_of_zero_le h0
  rw [Int.toNat_natCast]
  by_cases hlt : k < s.size
  · have E0 := hide (bt_in hlt)
    have HN : Hid (¬ s.size ≤ k) := by show ¬ s.size ≤ k; omega
    have hb : ((s[k].toNat : Nat) : Int) ≤ 255 := by have := s[k].toNat_lt; omega
    go_enter Tryd.func53, Tryd.ntmps53
    go_wp2_with (first
      | (go_at_call 68; refine (isBlank_any _ _ (by omega) (by omega)).mono ?_; rintro e w' ⟨rfl, rfl⟩)
      | (go_at_call 69; refine (isPair_any _ _ _ _ _ hs (by omega) (by omega) (by omega)).mono ?_; rintro e w' ⟨rfl, rfl⟩)
      | (go_at_call 70; refine (lineEnd_any _ _ _ hs (by omega) (by omega)).mono ?_; rintro e w' ⟨rfl, rfl⟩)
      | (go_at_call 71; refine (commentEnd_any _ _ _ hs (by omega) (by omega)).mono ?_; rintro e w' ⟨rfl, rfl⟩))
    · go_ret
      exact ⟨ret_int (by unfold pieceE; rw [if_neg (unhide HN), unhide E0, if_pos ‹_›]; rfl), rfl⟩
    · go_ret
      exact ⟨ret_int (by unfold pieceE; rw [if_neg (unhide HN), unhide E0, ‹blankB _ = false›]; simp [‹pairB s k 47 47 = true›]), rfl⟩
    · go_ret
      exact ⟨ret_int (by unfold pieceE; rw [if_neg (unhide HN), unhide E0, ‹blankB _ = false›]; simp [‹pairB s k 47 47 = false›, ‹pairB s k 47 42 = true›]), rfl⟩
    · go_ret
      exact ⟨ret_int (by unfold pieceE; rw [if_neg (unhide HN), unhide E0, ‹blankB _ = false›]; simp [‹pairB s k 47 47 = false›, ‹pairB s k 47 42 = false›]), rfl⟩
  · go_enter Tryd.func53, Tryd.ntmps53
    go_wp2_with fail
    go_ret
    exact ⟨ret_int (by rw [pieceE_out (by omega)]), rfl⟩

set_option maxHeartbeats 400000 in
theorem aheadEnd_any (s : ByteArray) (i : Int) (w : World) (hs : s.size ≤ 600) (h0 : 0 ≤ i) (h1 : i ≤ s.size) :
    Calls Tryd.prog 39 #[.string s, .int .i64 i] w fun e w' => e = .returned (.int .i64 (aheadE s i.toNat)) ∧ w' = w := by
  obtain ⟨k0, rfl⟩ := Int.eq_ofNat_of_zero_le h0
  rw [Int.toNat_natCast]
  go_enter Tryd.func39, Tryd.ntmps39
  go_wp2_with (go_at_call 53; refine (pieceEnd_any _ _ _ hs (by omega) (by omega)).mono ?_; rintro e w' ⟨rfl, rfl⟩)
  go_loop [5, 6] (fun i j => ∃ k : Nat, k ≤ s.size ∧ i = .int .i64 k ∧ j = .int .i64 (pieceE s k) ∧ aheadE s k = aheadE s k0) (fun i _ => s.size - (intOf i).toNat)
  case atStart => exact ⟨k0, by omega, rfl, rfl, rfl⟩
  case round =>
    obtain ⟨k, hk, rfl, rfl, hE⟩ := hrel
    have HE := hide hE
    clear hE
    have hbd := pieceE_bd s k hk
    by_cases hlt : k < pieceE s k
    · have HG := hide (aheadE_go hlt)
      generalize hj : pieceE s k = j at *
      have HJ := hide hj
      clear hj
      go_wp2_with (go_at_call 53; refine (pieceEnd_any _ _ _ hs (by omega) (by omega)).mono ?_; rintro e w' ⟨rfl, rfl⟩)
      go_round
      case rel => exact ⟨j, by omega, rfl, rfl, by rw [← unhide HE, unhide HG]⟩
      case measure => simp [intOf]; omega
    · have HG := hide (aheadE_stop hlt)
      go_wp2_with fail
      go_ret
      exact ⟨ret_int (by rw [← unhide HE, unhide HG]), rfl⟩

def isLong (t : List UInt8) : Bool := t == [61, 61] || t == [33, 61] || t == [38, 38] || t == [124, 124]
def longB (s : ByteArray) (i : Nat) : Bool := decide (i + 2 ≤ s.size) && isLong (s.extract i (i + 2)).toList
def shortB (c : Int) : Bool := [40, 41, 123, 125, 44, 59, 61, 60, 62, 43, 45, 42, 47, 33].contains c

set_option maxHeartbeats 800000 in
theorem isLongSign_any (s : ByteArray) (i : Int) (w : World) (hs : s.size ≤ 600) (h0 : 0 ≤ i) (h1 : i ≤ s.size) :
    Calls Tryd.prog 73 #[.string s, .int .i64 i] w fun e w' => e = .returned (.bool (longB s i.toNat)) ∧ w' = w := by
  obtain ⟨k, rfl⟩ := Int.eq_ofNat_of_zero_le h0
  rw [Int.toNat_natCast]
  by_cases hlt : k + 2 ≤ s.size
  · have HL : Hid (longB s k = isLong (s.extract k (k + 2)).toList) := by show longB s k = _; simp [longB, hlt]
    cases h1 : ((s.extract k (k + 2)).toList == [61, 61]) with
    | true =>
      have HF : Hid (isLong (s.extract k (k + 2)).toList = true) := by show isLong _ = true; simp [isLong, h1]
      go_enter Tryd.func73, Tryd.ntmps73
      go_wp2_with fail
      go_ret
      exact ⟨ret_bool (by rw [unhide HL, unhide HF]), rfl⟩
    | false =>
    cases h2 : ((s.extract k (k + 2)).toList == [33, 61]) with
    | true =>
      have HF : Hid (isLong (s.extract k (k + 2)).toList = true) := by show isLong _ = true; simp [isLong, h2]
      go_enter Tryd.func73, Tryd.ntmps73
      go_wp2_with fail
      go_ret
      exact ⟨ret_bool (by rw [unhide HL, unhide HF]), rfl⟩
    | false =>
    cases h3 : ((s.extract k (k + 2)).toList == [38, 38]) with
    | true =>
      have HF : Hid (isLong (s.extract k (k + 2)).toList = true) := by show isLong _ = true; simp [isLong, h3]
      go_enter Tryd.func73, Tryd.ntmps73
      go_wp2_with fail
      go_ret
      exact ⟨ret_bool (by rw [unhide HL, unhide HF]), rfl⟩
    | false =>
    cases h4 : ((s.extract k (k + 2)).toList == [124, 124]) with
    | true =>
      have HF : Hid (isLong (s.extract k (k + 2)).toList = true) := by show isLong _ = true; simp [isLong, h4]
      go_enter Tryd.func73, Tryd.ntmps73
      go_wp2_with fail
      go_ret
      exact ⟨ret_bool (by rw [unhide HL, unhide HF]), rfl⟩
    | false =>
      have HF : Hid (isLong (s.extract k (k + 2)).toList = false) := by show isLong _ = false; simp [isLong, h1, h2, h3, h4]
      go_enter Tryd.func73, Tryd.ntmps73
      go_wp2_with fail
      go_ret
      exact ⟨ret_bool (by rw [unhide HL, unhide HF]), rfl⟩
  · have HL : Hid (longB s k = false) := by show longB s k = false; simp [longB, hlt]
    go_enter Tryd.func73, Tryd.ntmps73
    go_wp2_with fail
    go_ret
    exact ⟨ret_bool (unhide HL).symm, rfl⟩

set_option maxHeartbeats 1600000 in
theorem isShortSign_any (s : ByteArray) (i : Int) (w : World) (_hs : s.size ≤ 600) (h0 : 0 ≤ i) (h1 : i ≤ s.size) :
    Calls Tryd.prog 74 #[.string s, .int .i64 i] w fun e w' => e = .returned (.bool (shortB (bt s i.toNat))) ∧ w' = w := by
  obtain ⟨k, rfl⟩ := Int.eq_ofNat_of_zero_le h0
  rw [Int.toNat_natCast]
  by_cases hlt : k < s.size
  · have E0 := hide (bt_in hlt)
    go_enter Tryd.func74, Tryd.ntmps74
    go_wp2_with fail
    all_goals go_ret
    all_goals refine ⟨ret_bool ?_, rfl⟩
    all_goals rw [unhide E0]
    all_goals simp only [shortB, List.contains_cons, *, Bool.or_true, Bool.or_false, Bool.true_or, List.contains_nil]
  · have E0 := hide (bt_out (s := s) (i := k) (by omega))
    go_enter Tryd.func74, Tryd.ntmps74
    go_wp2_with fail
    go_ret
    exact ⟨ret_bool (by rw [unhide E0]; rfl), rfl⟩

def signE (s : ByteArray) (p : Nat) : Nat := if pairB s p 47 42 then p else if longB s p then p + 2 else if shortB (bt s p) then p + 1 else p
def tokenE (s : ByteArray) (p : Nat) : Nat :=
  if s.size ≤ p then p else if letterB (bt s p) then runE wordB s p else if digitB (bt s p) then runE digitB s p else signE s p

set_option maxHeartbeats 800000 in
theorem signEnd_any (s : ByteArray) (i : Int) (w : World) (hs : s.size ≤ 600) (h0 : 0 ≤ i) (h1 : i ≤ s.size) :
    Calls Tryd.prog 58 #[.string s, .int .i64 i] w fun e w' => e = .returned (.int .i64 (signE s i.toNat)) ∧ w' = w := by
  obtain ⟨k, rfl⟩ := Int.eq_ofNat_of_zero_le h0
  rw [Int.toNat_natCast]
  go_enter Tryd.func58, Tryd.ntmps58
  go_wp2_with (first
    | (go_at_call 69; refine (isPair_any _ _ _ _ _ hs (by omega) (by omega) (by omega)).mono ?_; rintro e w' ⟨rfl, rfl⟩)
    | (go_at_call 73; refine (isLongSign_any _ _ _ hs (by omega) (by omega)).mono ?_; rintro e w' ⟨rfl, rfl⟩)
    | (go_at_call 74; refine (isShortSign_any _ _ _ hs (by omega) (by omega)).mono ?_; rintro e w' ⟨rfl, rfl⟩))
  all_goals go_ret
  · exact ⟨ret_int (by unfold signE; simp [‹pairB s k 47 42 = true›]), rfl⟩
  · exact ⟨ret_int (by unfold signE; simp [‹pairB s k 47 42 = false›, ‹longB s k = true›]), rfl⟩
  · exact ⟨ret_int (by unfold signE; simp [‹pairB s k 47 42 = false›, ‹longB s k = false›, ‹shortB (bt s k) = true›]), rfl⟩
  · exact ⟨ret_int (by unfold signE; simp [‹pairB s k 47 42 = false›, ‹longB s k = false›, ‹shortB (bt s k) = false›]), rfl⟩

set_option maxHeartbeats 800000 in
theorem tokenEnd_any (s : ByteArray) (i : Int) (w : World) (hs : s.size ≤ 600) (h0 : 0 ≤ i) (h1 : i ≤ s.size) :
    Calls Tryd.prog 40 #[.string s, .int .i64 i] w fun e w' => e = .returned (.int .i64 (tokenE s i.toNat)) ∧ w' = w := by
  obtain ⟨k, rfl⟩ := Int.eq_ofNat_of_zero_le h0
  rw [Int.toNat_natCast]
  by_cases hlt : k < s.size
  · have E0 := hide (bt_in hlt)
    have HN : Hid (¬ s.size ≤ k) := by show ¬ s.size ≤ k; omega
    have hb : ((s[k].toNat : Nat) : Int) ≤ 255 := by have := s[k].toNat_lt; omega
    go_enter Tryd.func40, Tryd.ntmps40
    go_wp2_with (first
      | (go_at_call 54; refine (isLetter_any _ _ (by omega) (by omega)).mono ?_; rintro e w' ⟨rfl, rfl⟩)
      | (go_at_call 56; refine (isDigit_any _ _ (by omega) (by omega)).mono ?_; rintro e w' ⟨rfl, rfl⟩)
      | (go_at_call 55; refine (wordEnd_any _ _ _ hs (by omega) (by omega)).mono ?_; rintro e w' ⟨rfl, rfl⟩)
      | (go_at_call 57; refine (numberEnd_any _ _ _ hs (by omega) (by omega)).mono ?_; rintro e w' ⟨rfl, rfl⟩)
      | (go_at_call 58; refine (signEnd_any _ _ _ hs (by omega) (by omega)).mono ?_; rintro e w' ⟨rfl, rfl⟩))
    all_goals go_ret
    · exact ⟨ret_int (by unfold tokenE; rw [if_neg (unhide HN), unhide E0, ‹letterB _ = true›]; simp), rfl⟩
    · exact ⟨ret_int (by unfold tokenE; rw [if_neg (unhide HN), unhide E0, ‹letterB _ = false›, ‹digitB _ = true›]; simp), rfl⟩
    · exact ⟨ret_int (by unfold tokenE; rw [if_neg (unhide HN), unhide E0, ‹letterB _ = false›, ‹digitB _ = false›]; simp), rfl⟩
  · have HN : Hid (s.size ≤ k) := by show s.size ≤ k; omega
    go_enter Tryd.func40, Tryd.ntmps40
    go_wp2_with fail
    go_ret
    exact ⟨ret_int (by unfold tokenE; rw [if_pos (unhide HN)]), rfl⟩

end Go.Proofs.YtdaneedflpfeaaaDoor
