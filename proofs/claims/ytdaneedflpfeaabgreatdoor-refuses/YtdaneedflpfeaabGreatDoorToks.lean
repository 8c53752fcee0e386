import Derived.Test.YtdaneedflpfeaabGreatDoorRows
import Derived.WalkKit
import Derived.WalkSpells
import Derived.WalkLawsBesides
import Derived.BigQuiet
import Derived.Deep.AppendLies
namespace Go.Proofs.YtdaneedflpfeaabGreatDoor
set_option maxRecDepth 100000
open Go.RowKit

def letterB (c : Int) : Bool := decide ((97 ≤ c ∧ c ≤ 122) ∨ (65 ≤ c ∧ c ≤ 90) ∨ c = 95)
def digitB (c : Int) : Bool := decide (48 ≤ c ∧ c ≤ 57)
def blankB (c : Int) : Bool := decide (c = 32 ∨ c = 9 ∨ c = 10 ∨ c = 13)
def plainB (c : Int) : Bool := decide (33 ≤ c ∧ c ≤ 126 ∧ c ≠ 92 ∧ c ≠ 40 ∧ c ≠ 41)

theorem hide {p : Prop} (h : p) : Hid p := h
theorem unhide {p : Prop} (h : Hid p) : p := h

theorem ret_bool {a b : Bool} (h : a = b) : Ending.returned (.bool a) = .returned (.bool b) := by rw [h]
theorem ret_int {k : IntKind} {a b : Int} (h : a = b) : Ending.returned (.int k a) = .returned (.int k b) := by rw [h]

set_option maxHeartbeats 400000 in
theorem isLetter_any (c : Int) (w : World) (h0 : 0 ≤ c) (h1 : c ≤ 255) :
    Calls Tryz.prog 56 #[.int .u8 c] w fun e w' => e = .returned (.bool (letterB c)) ∧ w' = w := by
  go_enter Tryz.func56, Tryz.ntmps56
  go_wp2
  all_goals go_ret
  all_goals exact ⟨ret_bool (by rw [Bool.eq_iff_iff]; first | (simp [letterB]; done) | (simp [letterB]; omega) | (simp at *; simp [letterB]; omega)), rfl⟩

set_option maxHeartbeats 400000 in
theorem isDigit_any (c : Int) (w : World) (h0 : 0 ≤ c) (h1 : c ≤ 255) :
    Calls Tryz.prog 58 #[.int .u8 c] w fun e w' => e = .returned (.bool (digitB c)) ∧ w' = w := by
  go_enter Tryz.func58, Tryz.ntmps58
  go_wp2
  all_goals go_ret
  all_goals exact ⟨ret_bool (by rw [Bool.eq_iff_iff]; first | (simp [digitB]; done) | (simp [digitB]; omega) | (simp at *; simp [digitB]; omega)), rfl⟩

set_option maxHeartbeats 400000 in
theorem isBlank_any (c : Int) (w : World) (h0 : 0 ≤ c) (h1 : c ≤ 255) :
    Calls Tryz.prog 74 #[.int .u8 c] w fun e w' => e = .returned (.bool (blankB c)) ∧ w' = w := by
  go_enter Tryz.func74, Tryz.ntmps74
  go_wp2
  all_goals go_ret
  all_goals exact ⟨ret_bool (by rw [Bool.eq_iff_iff]; first | (simp [blankB]; done) | (simp [blankB]; omega) | (simp at *; simp [blankB]; omega)), rfl⟩

set_option maxHeartbeats 400000 in
theorem isPlain_any (c : Int) (w : World) (h0 : 0 ≤ c) (h1 : c ≤ 255) :
    Calls Tryz.prog 65 #[.int .u8 c] w fun e w' => e = .returned (.bool (plainB c)) ∧ w' = w := by
  go_enter Tryz.func65, Tryz.ntmps65
  go_wp2
  all_goals go_ret
  all_goals exact ⟨ret_bool (by rw [Bool.eq_iff_iff]; first | (simp [plainB]; done) | (simp [plainB]; omega) | (simp at *; simp [plainB]; omega)), rfl⟩


def wordB (c : Int) : Bool := letterB c || digitB c
set_option maxHeartbeats 400000 in
theorem isWordByte_any (c : Int) (w : World) (h0 : 0 ≤ c) (h1 : c ≤ 255) :
    Calls Tryz.prog 77 #[.int .u8 c] w fun e w' => e = .returned (.bool (wordB c)) ∧ w' = w := by
  cases hl : letterB c
  all_goals
    go_enter Tryz.func77, Tryz.ntmps77
    go_wp2_with (first
      | (go_at_call 56; refine (isLetter_any _ _ (by omega) (by omega)).mono ?_; rintro e w' ⟨rfl, rfl⟩)
      | (go_at_call 58; refine (isDigit_any _ _ (by omega) (by omega)).mono ?_; rintro e w' ⟨rfl, rfl⟩))
    go_ret
    exact ⟨ret_bool (by simp [wordB, hl]), rfl⟩

end Go.Proofs.YtdaneedflpfeaabGreatDoor

namespace Go.Proofs.YtdaneedflpfeaabGreatDoor
set_option maxRecDepth 100000
open Go.RowKit

/-- The byte at a place; -1 behind the end. -/
def bt (s : ByteArray) (i : Nat) : Int := if h : i < s.size then ((s[i]'h).toNat : Int) else -1
theorem bt_in {s : ByteArray} {i : Nat} (h : i < s.size) : bt s i = ((s[i]'h).toNat : Int) := by simp [bt, h]
theorem bt_out {s : ByteArray} {i : Nat} (h : s.size ≤ i) : bt s i = -1 := by simp [bt]; omega
theorem bt_hi (s : ByteArray) (i : Nat) : bt s i ≤ 255 := by
  unfold bt; split
  · have := (s[i]'‹_›).toNat_lt; omega
  · omega
theorem bt_lo {s : ByteArray} {i : Nat} (h : i < s.size) : 0 ≤ bt s i := by rw [bt_in h]; omega
theorem bt_neg {s : ByteArray} {i : Nat} (h : 0 ≤ bt s i) : i < s.size := by
  by_cases g : i < s.size
  · exact g
  · rw [bt_out (by omega)] at h; omega

def pairB (s : ByteArray) (i : Nat) (a b : Int) : Bool := bt s i == a && bt s (i + 1) == b
def runE (f : Int → Bool) (s : ByteArray) (i : Nat) : Nat := if h : i < s.size ∧ f (bt s i) = true then runE f s (i + 1) else i
  termination_by s.size - i
theorem runE_yes {f : Int → Bool} {s : ByteArray} {i : Nat} (h : i < s.size) (g : f (bt s i) = true) : runE f s i = runE f s (i + 1) := by rw [runE]; simp [h, g]
theorem runE_no {f : Int → Bool} {s : ByteArray} {i : Nat} (h : i < s.size → f (bt s i) = false) : runE f s i = i := by
  rw [runE]; split
  · rename_i hh; rw [h hh.1] at hh; simp at hh
  · rfl
theorem runE_ge (f : Int → Bool) (s : ByteArray) (i : Nat) : i ≤ runE f s i := by
  induction i using runE.induct f s with
  | case1 i h ih => rw [runE_yes h.1 h.2]; omega
  | case2 i h => rw [runE_no (fun g => by cases hh : f (bt s i) with | false => rfl | true => exact absurd ⟨g, hh⟩ h)]; exact Nat.le_refl i
theorem runE_le (f : Int → Bool) (s : ByteArray) (i : Nat) (hi : i ≤ s.size) : runE f s i ≤ s.size := by
  induction i using runE.induct f s with
  | case1 i h ih => rw [runE_yes h.1 h.2]; exact ih (by omega)
  | case2 i h => rw [runE_no (fun g => by cases hh : f (bt s i) with | false => rfl | true => exact absurd ⟨g, hh⟩ h)]; exact hi
def noLf (c : Int) : Bool := c != 10
def closeE (s : ByteArray) (i : Nat) : Option Nat := if _h : i < s.size then (if pairB s i 42 47 then some (i + 2) else closeE s (i + 1)) else none
  termination_by s.size - i
def commentE (s : ByteArray) (i : Nat) : Nat := (closeE s (i + 2)).getD i
def pieceE (s : ByteArray) (i : Nat) : Nat :=
  if s.size ≤ i then i else if blankB (bt s i) then i + 1 else if pairB s i 47 47 then runE noLf s i else if pairB s i 47 42 then commentE s i else i
def aheadE (s : ByteArray) (i : Nat) : Nat := if _h : i < pieceE s i ∧ i < s.size then aheadE s (pieceE s i) else i
  termination_by s.size - i

theorem closeE_some {s : ByteArray} {i j : Nat} (h : closeE s i = some j) : i + 2 ≤ j ∧ j ≤ s.size := by
  induction i using closeE.induct s with
  | case1 i hi hp => rw [closeE] at h; simp [hi, hp] at h; subst h; simp [pairB] at hp; have := bt_neg (s := s) (i := i + 1) (by rw [hp.2]; decide); omega
  | case2 i hi hp ih => rw [closeE] at h; simp [hi, hp] at h; have := ih h; omega
  | case3 i hi => rw [closeE] at h; simp [hi] at h
theorem commentE_bd (s : ByteArray) (i : Nat) (h : i ≤ s.size) : i ≤ commentE s i ∧ commentE s i ≤ s.size := by
  unfold commentE
  cases hc : closeE s (i + 2) with
  | none => simp; omega
  | some j => have := closeE_some hc; simp; omega
theorem pieceE_bd (s : ByteArray) (i : Nat) (h : i ≤ s.size) : i ≤ pieceE s i ∧ pieceE s i ≤ s.size := by
  unfold pieceE
  have := runE_ge noLf s i; have := runE_le noLf s i h; have := commentE_bd s i h
  repeat' split
  all_goals omega
theorem pieceE_out {s : ByteArray} {i : Nat} (h : s.size ≤ i) : pieceE s i = i := by simp [pieceE, h]
theorem aheadE_bd (s : ByteArray) (i : Nat) (h : i ≤ s.size) : i ≤ aheadE s i ∧ aheadE s i ≤ s.size := by
  induction i using aheadE.induct s with
  | case1 i hi ih => rw [aheadE]; simp only [hi, and_self, dite_true]; have := pieceE_bd s i h; have := ih (by omega); omega
  | case2 i hi => rw [aheadE]; simp only [hi, dite_false]; omega
theorem aheadE_go {s : ByteArray} {i : Nat} (hi : i < pieceE s i) : aheadE s i = aheadE s (pieceE s i) := by
  rw [aheadE]
  have : i < s.size := by by_cases h : i < s.size; exact h; rw [pieceE_out (by omega)] at hi; omega
  simp [hi, this]
theorem aheadE_stop {s : ByteArray} {i : Nat} (hi : ¬ i < pieceE s i) : aheadE s i = i := by rw [aheadE]; simp [hi]

set_option maxHeartbeats 400000 in
theorem isPair_any (s : ByteArray) (i : Int) (a b : Int) (w : World) (hs : s.size ≤ 600) (h0 : 0 ≤ i) (h1 : i ≤ s.size) (hb : 0 ≤ b) :
    Calls Tryz.prog 75 #[.string s, .int .i64 i, .int .u8 a, .int .u8 b] w fun e w' => e = .returned (.bool (pairB s i.toNat a b)) ∧ w' = w := by
  obtain ⟨k, rfl⟩ := Int.eq_ofNat_of_zero_le h0
  rw [Int.toNat_natCast]
  by_cases hlt : k + 1 < s.size
  · have hlt0 : k < s.size := by omega
    have e0 := bt_in hlt0
    have e1 := bt_in hlt
    have E0 := hide e0
    have E1 := hide e1
    clear e0 e1
    go_enter Tryz.func75, Tryz.ntmps75
    go_wp2
    · go_ret
      exact ⟨ret_bool (by unfold pairB; rw [unhide E0, unhide E1]; simp [*]), rfl⟩
    · go_ret
      exact ⟨ret_bool (by unfold pairB; rw [unhide E0, unhide E1]; simp [*]), rfl⟩
  · have e1 := bt_out (s := s) (i := k + 1) (by omega)
    have E1 := hide e1
    clear e1
    go_enter Tryz.func75, Tryz.ntmps75
    go_wp2
    go_ret
    exact ⟨ret_bool (by unfold pairB; rw [unhide E1]; simp; intro _; omega), rfl⟩

set_option maxHeartbeats 400000 in
theorem lineEnd_any (s : ByteArray) (i : Int) (w : World) (hs : s.size ≤ 600) (h0 : 0 ≤ i) (h1 : i ≤ s.size) :
    Calls Tryz.prog 28 #[.string s, .int .i64 i] w fun e w' => e = .returned (.int .i64 (runE noLf s i.toNat)) ∧ w' = w := by
  obtain ⟨k0, rfl⟩ := Int.eq_ofNat_of_zero_le h0
  rw [Int.toNat_natCast]
  go_enter Tryz.func28, Tryz.ntmps28
  go_wp2
  go_loop [5] (fun i => ∃ k : Nat, k ≤ s.size ∧ i = .int .i64 k ∧ runE noLf s k = runE noLf s k0) (fun i => s.size - (intOf i).toNat)
  case atStart => exact ⟨k0, by omega, rfl, rfl⟩
  case round =>
    obtain ⟨k, hk, rfl, hE⟩ := hrel
    have HE : Hid (runE noLf s k = runE noLf s k0) := hE
    clear hE
    by_cases hlt : k < s.size
    · have E0 := hide (bt_in hlt)
      go_wp2
      · have h := ‹((s[k].toNat : Int) != 10) = true›
        go_round
        case rel => exact ⟨k + 1, by omega, by go_num, by rw [← unhide HE, runE_yes hlt (by rw [unhide E0]; exact h)]⟩
        case measure => simp [intOf]; omega
      · have h := ‹((s[k].toNat : Int) != 10) = false›
        go_ret
        exact ⟨ret_int (by rw [← unhide HE, runE_no (fun _ => by rw [unhide E0]; exact h)]), rfl⟩
    · go_wp2
      go_ret
      exact ⟨ret_int (by rw [← unhide HE, runE_no (fun h => absurd h hlt)]), rfl⟩

set_option maxHeartbeats 400000 in
theorem wordEnd_any (s : ByteArray) (i : Int) (w : World) (hs : s.size ≤ 600) (h0 : 0 ≤ i) (h1 : i ≤ s.size) :
    Calls Tryz.prog 57 #[.string s, .int .i64 i] w fun e w' => e = .returned (.int .i64 (runE wordB s i.toNat)) ∧ w' = w := by
  obtain ⟨k0, rfl⟩ := Int.eq_ofNat_of_zero_le h0
  rw [Int.toNat_natCast]
  go_enter Tryz.func57, Tryz.ntmps57
  go_wp2
  go_loop [5] (fun i => ∃ k : Nat, k ≤ s.size ∧ i = .int .i64 k ∧ runE wordB s k = runE wordB s k0) (fun i => s.size - (intOf i).toNat)
  case atStart => exact ⟨k0, by omega, rfl, rfl⟩
  case round =>
    obtain ⟨k, hk, rfl, hE⟩ := hrel
    have HE : Hid (runE wordB s k = runE wordB s k0) := hE
    clear hE
    by_cases hlt : k < s.size
    · have E0 := hide (bt_in hlt)
      have hb : ((s[k].toNat : Nat) : Int) ≤ 255 := by have := s[k].toNat_lt; omega
      go_wp2_with (go_at_call 77; refine (isWordByte_any _ _ (by omega) (by omega)).mono ?_; rintro e w' ⟨rfl, rfl⟩)
      · have h := ‹wordB (s[k].toNat : Int) = true›
        go_round
        case rel => exact ⟨k + 1, by omega, by go_num, by rw [← unhide HE, runE_yes hlt (by rw [unhide E0]; exact h)]⟩
        case measure => simp [intOf]; omega
      · have h := ‹wordB (s[k].toNat : Int) = false›
        go_ret
        exact ⟨ret_int (by rw [← unhide HE, runE_no (fun _ => by rw [unhide E0]; exact h)]), rfl⟩
    · go_wp2_with fail
      go_ret
      exact ⟨ret_int (by rw [← unhide HE, runE_no (fun h => absurd h hlt)]), rfl⟩

set_option maxHeartbeats 400000 in
theorem numberEnd_any (s : ByteArray) (i : Int) (w : World) (hs : s.size ≤ 600) (h0 : 0 ≤ i) (h1 : i ≤ s.size) :
    Calls Tryz.prog 59 #[.string s, .int .i64 i] w fun e w' => e = .returned (.int .i64 (runE digitB s i.toNat)) ∧ w' = w := by
  obtain ⟨k0, rfl⟩ := Int.eq_ofNat_of_zero_le h0
  rw [Int.toNat_natCast]
  go_enter Tryz.func59, Tryz.ntmps59
  go_wp2
  go_loop [5] (fun i => ∃ k : Nat, k ≤ s.size ∧ i = .int .i64 k ∧ runE digitB s k = runE digitB s k0) (fun i => s.size - (intOf i).toNat)
  case atStart => exact ⟨k0, by omega, rfl, rfl⟩
  case round =>
    obtain ⟨k, hk, rfl, hE⟩ := hrel
    have HE : Hid (runE digitB s k = runE digitB s k0) := hE
    clear hE
    by_cases hlt : k < s.size
    · have E0 := hide (bt_in hlt)
      have hb : ((s[k].toNat : Nat) : Int) ≤ 255 := by have := s[k].toNat_lt; omega
      go_wp2_with (go_at_call 58; refine (isDigit_any _ _ (by omega) (by omega)).mono ?_; rintro e w' ⟨rfl, rfl⟩)
      · have h := ‹digitB (s[k].toNat : Int) = true›
        go_round
        case rel => exact ⟨k + 1, by omega, by go_num, by rw [← unhide HE, runE_yes hlt (by rw [unhide E0]; exact h)]⟩
        case measure => simp [intOf]; omega
      · have h := ‹digitB (s[k].toNat : Int) = false›
        go_ret
        exact ⟨ret_int (by rw [← unhide HE, runE_no (fun _ => by rw [unhide E0]; exact h)]), rfl⟩
    · go_wp2_with fail
      go_ret
      exact ⟨ret_int (by rw [← unhide HE, runE_no (fun h => absurd h hlt)]), rfl⟩

set_option maxHeartbeats 400000 in
theorem commentEnd_any (s : ByteArray) (i : Int) (w : World) (hs : s.size ≤ 600) (h0 : 0 ≤ i) (h1 : i ≤ s.size) :
    Calls Tryz.prog 76 #[.string s, .int .i64 i] w fun e w' => e = .returned (.int .i64 (commentE s i.toNat)) ∧ w' = w := by
  obtain ⟨k0, rfl⟩ := Int.eq_ofNat_of_zero_le h0
  rw [Int.toNat_natCast]
  go_enter Tryz.func76, Tryz.ntmps76
  go_wp2
  go_loop [5] (fun i => ∃ k : Nat, k ≤ s.size + 2 ∧ i = .int .i64 k ∧ closeE s k = closeE s (k0 + 2)) (fun i => s.size + 2 - (intOf i).toNat)
  case atStart => exact ⟨k0 + 2, by omega, by go_num, rfl⟩
  case round =>
    obtain ⟨k, hk, rfl, hE⟩ := hrel
    have HE : Hid (closeE s k = closeE s (k0 + 2)) := hE
    clear hE
    by_cases hlt : k < s.size
    · have C := hide (closeE.eq_1 s k)
      go_wp2_with (go_at_call 75; refine (isPair_any _ _ _ _ _ hs (by omega) (by omega) (by omega)).mono ?_; rintro e w' ⟨rfl, rfl⟩)
      all_goals (try rw [Int.toNat_natCast] at *)
      · have h := ‹pairB s k 42 47 = true›
        go_ret
        exact ⟨ret_int (by unfold commentE; rw [← unhide HE, unhide C]; simp [hlt, h]), rfl⟩
      · have h := ‹pairB s k 42 47 = false›
        go_round
        case rel => exact ⟨k + 1, by omega, by go_num, by rw [← unhide HE, unhide C]; simp [hlt, h]⟩
        case measure => simp [intOf]; omega
    · have C := hide (closeE.eq_1 s k)
      go_wp2_with fail
      go_ret
      exact ⟨ret_int (by unfold commentE; rw [← unhide HE, unhide C]; simp [hlt]), rfl⟩

end Go.Proofs.YtdaneedflpfeaabGreatDoor

namespace Go.Proofs.YtdaneedflpfeaabGreatDoor
set_option maxRecDepth 100000
open Go.RowKit

set_option maxHeartbeats 800000 in
theorem pieceEnd_any (s : ByteArray) (i : Int) (w : World) (hs : s.size ≤ 600) (h0 : 0 ≤ i) (h1 : i ≤ s.size) :
    Calls Tryz.prog 55 #[.string s, .int .i64 i] w fun e w' => e = .returned (.int .i64 (pieceE s i.toNat)) ∧ w' = w := by
  obtain ⟨k, rfl⟩ := Int.eq_ofNat_of_zero_le h0
  rw [Int.toNat_natCast]
  by_cases hlt : k < s.size
  · have E0 := hide (bt_in hlt)
    have HN : Hid (¬ s.size ≤ k) := by show ¬ s.size ≤ k; omega
    have hb : ((s[k].toNat : Nat) : Int) ≤ 255 := by have := s[k].toNat_lt; omega
    go_enter Tryz.func55, Tryz.ntmps55
    go_wp2_with (first
      | (go_at_call 74; refine (isBlank_any _ _ (by omega) (by omega)).mono ?_; rintro e w' ⟨rfl, rfl⟩)
      | (go_at_call 75; refine (isPair_any _ _ _ _ _ hs (by omega) (by omega) (by omega)).mono ?_; rintro e w' ⟨rfl, rfl⟩)
      | (go_at_call 28; refine (lineEnd_any _ _ _ hs (by omega) (by omega)).mono ?_; rintro e w' ⟨rfl, rfl⟩)
      | (go_at_call 76; refine (commentEnd_any _ _ _ hs (by omega) (by omega)).mono ?_; rintro e w' ⟨rfl, rfl⟩))
    · go_ret
      exact ⟨ret_int (by unfold pieceE; rw [if_neg (unhide HN), unhide E0, if_pos ‹_›]; rfl), rfl⟩
    · go_ret
      exact ⟨ret_int (by unfold pieceE; rw [if_neg (unhide HN), unhide E0, ‹blankB _ = false›]; simp [‹pairB s k 47 47 = true›]), rfl⟩
    · go_ret
      exact ⟨ret_int (by unfold pieceE; rw [if_neg (unhide HN), unhide E0, ‹blankB _ = false›]; simp [‹pairB s k 47 47 = false›, ‹pairB s k 47 42 = true›]), rfl⟩
    · go_ret
      exact ⟨ret_int (by unfold pieceE; rw [if_neg (unhide HN), unhide E0, ‹blankB _ = false›]; simp [‹pairB s k 47 47 = false›, ‹pairB s k 47 42 = false›]), rfl⟩
  · go_enter Tryz.func55, Tryz.ntmps55
    go_wp2_with fail
    go_ret
    exact ⟨ret_int (by rw [pieceE_out (by omega)]), rfl⟩

set_option maxHeartbeats 400000 in
theorem aheadEnd_any (s : ByteArray) (i : Int) (w : World) (hs : s.size ≤ 600) (h0 : 0 ≤ i) (h1 : i ≤ s.size) :
    Calls Tryz.prog 31 #[.string s, .int .i64 i] w fun e w' => e = .returned (.int .i64 (aheadE s i.toNat)) ∧ w' = w := by
  obtain ⟨k0, rfl⟩ := Int.eq_ofNat_of_zero_le h0
  rw [Int.toNat_natCast]
  go_enter Tryz.func31, Tryz.ntmps31
  go_wp2_with (go_at_call 55; refine (pieceEnd_any _ _ _ hs (by omega) (by omega)).mono ?_; rintro e w' ⟨rfl, rfl⟩)
  go_loop [5, 6] (fun i j => ∃ k : Nat, k ≤ s.size ∧ i = .int .i64 k ∧ j = .int .i64 (pieceE s k) ∧ aheadE s k = aheadE s k0) (fun i _ => s.size - (intOf i).toNat)
  case atStart => exact ⟨k0, by omega, rfl, rfl, rfl⟩
  case round =>
    obtain ⟨k, hk, rfl, rfl, hE⟩ := hrel
    have HE := hide hE
    clear hE
    have hbd := pieceE_bd s k hk
    by_cases hlt : k < pieceE s k
    · have HG := hide (aheadE_go hlt)
      generalize hj : pieceE s k = j at *
      have HJ := hide hj
      clear hj
      go_wp2_with (go_at_call 55; refine (pieceEnd_any _ _ _ hs (by omega) (by omega)).mono ?_; rintro e w' ⟨rfl, rfl⟩)
      go_round
      case rel => exact ⟨j, by omega, rfl, rfl, by rw [← unhide HE, unhide HG]⟩
      case measure => simp [intOf]; omega
    · have HG := hide (aheadE_stop hlt)
      go_wp2_with fail
      go_ret
      exact ⟨ret_int (by rw [← unhide HE, unhide HG]), rfl⟩

def isLong (t : List UInt8) : Bool := t == [61, 61] || t == [33, 61] || t == [38, 38] || t == [124, 124]
def longB (s : ByteArray) (i : Nat) : Bool := decide (i + 2 ≤ s.size) && isLong (s.extract i (i + 2)).toList
def shortB (c : Int) : Bool := [40, 41, 123, 125, 44, 59, 61, 60, 62, 43, 45, 42, 47, 33].contains c

set_option maxHeartbeats 800000 in
theorem isLongSign_any (s : ByteArray) (i : Int) (w : World) (hs : s.size ≤ 600) (h0 : 0 ≤ i) (h1 : i ≤ s.size) :
    Calls Tryz.prog 78 #[.string s, .int .i64 i] w fun e w' => e = .returned (.bool (longB s i.toNat)) ∧ w' = w := by
  obtain ⟨k, rfl⟩ := Int.eq_ofNat_of_zero_le h0
  rw [Int.toNat_natCast]
  by_cases hlt : k + 2 ≤ s.size
  · have HL : Hid (longB s k = isLong (s.extract k (k + 2)).toList) := by show longB s k = _; simp [longB, hlt]
    cases h1 : ((s.extract k (k + 2)).toList == [61, 61]) with
    | true =>
      have HF : Hid (isLong (s.extract k (k + 2)).toList = true) := by show isLong _ = true; simp [isLong, h1]
      go_enter Tryz.func78, Tryz.ntmps78
      go_wp2_with fail
      go_ret
      exact ⟨ret_bool (by rw [unhide HL, unhide HF]), rfl⟩
    | false =>
    cases h2 : ((s.extract k (k + 2)).toList == [33, 61]) with
    | true =>
      have HF : Hid (isLong (s.extract k (k + 2)).toList = true) := by show isLong _ = true; simp [isLong, h2]
      go_enter Tryz.func78, Tryz.ntmps78
      go_wp2_with fail
      go_ret
      exact ⟨ret_bool (by rw [unhide HL, unhide HF]), rfl⟩
    | false =>
    cases h3 : ((s.extract k (k + 2)).toList == [38, 38]) with
    | true =>
      have HF : Hid (isLong (s.extract k (k + 2)).toList = true) := by show isLong _ = true; simp [isLong, h3]
      go_enter Tryz.func78, Tryz.ntmps78
      go_wp2_with fail
      go_ret
      exact ⟨ret_bool (by rw [unhide HL, unhide HF]), rfl⟩
    | false =>
    cases h4 : ((s.extract k (k + 2)).toList == [124, 124]) with
    | true =>
      have HF : Hid (isLong (s.extract k (k + 2)).toList = true) := by show isLong _ = true; simp [isLong, h4]
      go_enter Tryz.func78, Tryz.ntmps78
      go_wp2_with fail
      go_ret
      exact ⟨ret_bool (by rw [unhide HL, unhide HF]), rfl⟩
    | false =>
      have HF : Hid (isLong (s.extract k (k + 2)).toList = false) := by show isLong _ = false; simp [isLong, h1, h2, h3, h4]
      go_enter Tryz.func78, Tryz.ntmps78
      go_wp2_with fail
      go_ret
      exact ⟨ret_bool (by rw [unhide HL, unhide HF]), rfl⟩
  · have HL : Hid (longB s k = false) := by show longB s k = false; simp [longB, hlt]
    go_enter Tryz.func78, Tryz.ntmps78
    go_wp2_with fail
    go_ret
    exact ⟨ret_bool (unhide HL).symm, rfl⟩

set_option maxHeartbeats 1600000 in
theorem isShortSign_any (s : ByteArray) (i : Int) (w : World) (_hs : s.size ≤ 600) (h0 : 0 ≤ i) (h1 : i ≤ s.size) :
    Calls Tryz.prog 79 #[.string s, .int .i64 i] w fun e w' => e = .returned (.bool (shortB (bt s i.toNat))) ∧ w' = w := by
  obtain ⟨k, rfl⟩ := Int.eq_ofNat_of_zero_le h0
  rw [Int.toNat_natCast]
  by_cases hlt : k < s.size
  · have E0 := hide (bt_in hlt)
    go_enter Tryz.func79, Tryz.ntmps79
    go_wp2_with fail
    all_goals go_ret
    all_goals refine ⟨ret_bool ?_, rfl⟩
    all_goals rw [unhide E0]
    all_goals simp only [shortB, List.contains_cons, *, Bool.or_true, Bool.or_false, Bool.true_or, List.contains_nil]
  · have E0 := hide (bt_out (s := s) (i := k) (by omega))
    go_enter Tryz.func79, Tryz.ntmps79
    go_wp2_with fail
    go_ret
    exact ⟨ret_bool (by rw [unhide E0]; rfl), rfl⟩

def signE (s : ByteArray) (p : Nat) : Nat := if pairB s p 47 42 then p else if longB s p then p + 2 else if shortB (bt s p) then p + 1 else p
def tokenE (s : ByteArray) (p : Nat) : Nat :=
  if s.size ≤ p then p else if letterB (bt s p) then runE wordB s p else if digitB (bt s p) then runE digitB s p else signE s p

set_option maxHeartbeats 800000 in
theorem signEnd_any (s : ByteArray) (i : Int) (w : World) (hs : s.size ≤ 600) (h0 : 0 ≤ i) (h1 : i ≤ s.size) :
    Calls Tryz.prog 60 #[.string s, .int .i64 i] w fun e w' => e = .returned (.int .i64 (signE s i.toNat)) ∧ w' = w := by
  obtain ⟨k, rfl⟩ := Int.eq_ofNat_of_zero_le h0
  rw [Int.toNat_natCast]
  go_enter Tryz.func60, Tryz.ntmps60
  go_wp2_with (first
    | (go_at_call 75; refine (isPair_any _ _ _ _ _ hs (by omega) (by omega) (by omega)).mono ?_; rintro e w' ⟨rfl, rfl⟩)
    | (go_at_call 78; refine (isLongSign_any _ _ _ hs (by omega) (by omega)).mono ?_; rintro e w' ⟨rfl, rfl⟩)
    | (go_at_call 79; refine (isShortSign_any _ _ _ hs (by omega) (by omega)).mono ?_; rintro e w' ⟨rfl, rfl⟩))
  all_goals go_ret
  · exact ⟨ret_int (by unfold signE; simp [‹pairB s k 47 42 = true›]), rfl⟩
  · exact ⟨ret_int (by unfold signE; simp [‹pairB s k 47 42 = false›, ‹longB s k = true›]), rfl⟩
  · exact ⟨ret_int (by unfold signE; simp [‹pairB s k 47 42 = false›, ‹longB s k = false›, ‹shortB (bt s k) = true›]), rfl⟩
  · exact ⟨ret_int (by unfold signE; simp [‹pairB s k 47 42 = false›, ‹longB s k = false›, ‹shortB (bt s k) = false›]), rfl⟩

set_option maxHeartbeats 800000 in
theorem tokenEnd_any (s : ByteArray) (i : Int) (w : World) (hs : s.size ≤ 600) (h0 : 0 ≤ i) (h1 : i ≤ s.size) :
    Calls Tryz.prog 32 #[.string s, .int .i64 i] w fun e w' => e = .returned (.int .i64 (tokenE s i.toNat)) ∧ w' = w := by
  obtain ⟨k, rfl⟩ := Int.eq_ofNat_of_zero_le h0
  rw [Int.toNat_natCast]
  by_cases hlt : k < s.size
  · have E0 := hide (bt_in hlt)
    have HN : Hid (¬ s.size ≤ k) := by show ¬ s.size ≤ k; omega
    have hb : ((s[k].toNat : Nat) : Int) ≤ 255 := by have := s[k].toNat_lt; omega
    go_enter Tryz.func32, Tryz.ntmps32
    go_wp2_with (first
      | (go_at_call 56; refine (isLetter_any _ _ (by omega) (by omega)).mono ?_; rintro e w' ⟨rfl, rfl⟩)
      | (go_at_call 58; refine (isDigit_any _ _ (by omega) (by omega)).mono ?_; rintro e w' ⟨rfl, rfl⟩)
      | (go_at_call 57; refine (wordEnd_any _ _ _ hs (by omega) (by omega)).mono ?_; rintro e w' ⟨rfl, rfl⟩)
      | (go_at_call 59; refine (numberEnd_any _ _ _ hs (by omega) (by omega)).mono ?_; rintro e w' ⟨rfl, rfl⟩)
      | (go_at_call 60; refine (signEnd_any _ _ _ hs (by omega) (by omega)).mono ?_; rintro e w' ⟨rfl, rfl⟩))
    all_goals go_ret
    · exact ⟨ret_int (by unfold tokenE; rw [if_neg (unhide HN), unhide E0, ‹letterB _ = true›]; simp), rfl⟩
    · exact ⟨ret_int (by unfold tokenE; rw [if_neg (unhide HN), unhide E0, ‹letterB _ = false›, ‹digitB _ = true›]; simp), rfl⟩
    · exact ⟨ret_int (by unfold tokenE; rw [if_neg (unhide HN), unhide E0, ‹letterB _ = false›, ‹digitB _ = false›]; simp), rfl⟩
  · have HN : Hid (s.size ≤ k) := by show s.size ≤ k; omega
    go_enter Tryz.func32, Tryz.ntmps32
    go_wp2_with fail
    go_ret
    exact ⟨ret_int (by unfold tokenE; rw [if_pos (unhide HN)]), rfl⟩

end Go.Proofs.YtdaneedflpfeaabGreatDoor

namespace Go.Proofs.YtdaneedflpfeaabGreatDoor
set_option maxRecDepth 100000
open Go.RowKit

def kNone : ByteArray := ⟨#[110, 111, 110, 101]⟩
def kType : ByteArray := ⟨#[116, 121, 112, 101]⟩
def kName : ByteArray := ⟨#[110, 97, 109, 101]⟩
def kNumber : ByteArray := ⟨#[110, 117, 109, 98, 101, 114]⟩
def kEnd : ByteArray := ⟨#[101, 110, 100]⟩
def isTy (l : List UInt8) : Bool := l == [105, 110, 116] || l == [99, 104, 97, 114] || l == [118, 111, 105, 100]
def isKw (l : List UInt8) : Bool := l == [105, 102] || l == [101, 108, 115, 101] || l == [119, 104, 105, 108, 101] || l == [114, 101, 116, 117, 114, 110]
/-- The kind of a token's text. -/
def kindB (t : ByteArray) : ByteArray :=
  if t.toList.isEmpty then kNone else if isTy t.toList then kType else if isKw t.toList then t else if letterB (bt t 0) then kName else if digitB (bt t 0) then kNumber else t

theorem ret_str {a b : ByteArray} (h : a = b) : Ending.returned (.string a) = .returned (.string b) := by rw [h]

set_option maxHeartbeats 1600000 in
theorem kindOf_any (t : ByteArray) (w : World) :
    Calls Tryz.prog 33 #[.string t] w fun e w' => e = .returned (.string (kindB t)) ∧ w' = w := by
  cases h0 : t.toList.isEmpty with
  | true =>
    have HF : Hid (kindB t = kNone) := by show kindB t = _; simp [kindB, h0]
    go_enter Tryz.func33, Tryz.ntmps33
    go_wp2_with fail
    go_ret
    exact ⟨ret_str (unhide HF).symm, rfl⟩
  | false =>
  cases h1 : (t.toList == [105, 110, 116]) with
  | true =>
    have HF : Hid (kindB t = kType) := by show kindB t = _; (unfold kindB isTy isKw; rw [h0, h1]; try rfl)
    go_enter Tryz.func33, Tryz.ntmps33
    go_wp2_with fail
    go_ret
    exact ⟨ret_str (unhide HF).symm, rfl⟩
  | false =>
  cases h2 : (t.toList == [99, 104, 97, 114]) with
  | true =>
    have HF : Hid (kindB t = kType) := by show kindB t = _; (unfold kindB isTy isKw; rw [h0, h1, h2]; try rfl)
    go_enter Tryz.func33, Tryz.ntmps33
    go_wp2_with fail
    go_ret
    exact ⟨ret_str (unhide HF).symm, rfl⟩
  | false =>
  cases h3 : (t.toList == [118, 111, 105, 100]) with
  | true =>
    have HF : Hid (kindB t = kType) := by show kindB t = _; (unfold kindB isTy isKw; rw [h0, h1, h2, h3]; try rfl)
    go_enter Tryz.func33, Tryz.ntmps33
    go_wp2_with fail
    go_ret
    exact ⟨ret_str (unhide HF).symm, rfl⟩
  | false =>
  cases h4 : (t.toList == [105, 102]) with
  | true =>
    have HF : Hid (kindB t = t) := by show kindB t = _; (unfold kindB isTy isKw; rw [h0, h1, h2, h3, h4]; try rfl)
    go_enter Tryz.func33, Tryz.ntmps33
    go_wp2_with fail
    go_ret
    exact ⟨ret_str (unhide HF).symm, rfl⟩
  | false =>
  cases h5 : (t.toList == [101, 108, 115, 101]) with
  | true =>
    have HF : Hid (kindB t = t) := by show kindB t = _; (unfold kindB isTy isKw; rw [h0, h1, h2, h3, h4, h5]; try rfl)
    go_enter Tryz.func33, Tryz.ntmps33
    go_wp2_with fail
    go_ret
    exact ⟨ret_str (unhide HF).symm, rfl⟩
  | false =>
  cases h6 : (t.toList == [119, 104, 105, 108, 101]) with
  | true =>
    have HF : Hid (kindB t = t) := by show kindB t = _; (unfold kindB isTy isKw; rw [h0, h1, h2, h3, h4, h5, h6]; try rfl)
    go_enter Tryz.func33, Tryz.ntmps33
    go_wp2_with fail
    go_ret
    exact ⟨ret_str (unhide HF).symm, rfl⟩
  | false =>
  cases h7 : (t.toList == [114, 101, 116, 117, 114, 110]) with
  | true =>
    have HF : Hid (kindB t = t) := by show kindB t = _; (unfold kindB isTy isKw; rw [h0, h1, h2, h3, h4, h5, h6, h7]; try rfl)
    go_enter Tryz.func33, Tryz.ntmps33
    go_wp2_with fail
    go_ret
    exact ⟨ret_str (unhide HF).symm, rfl⟩
  | false =>
  have hz : 0 < t.size := by
    have : t.toList ≠ [] := by intro h; rw [h] at h0; simp at h0
    have h2 : t.toList.length ≠ 0 := by intro h; exact this (List.eq_nil_of_length_eq_zero h)
    have h3 : t.toList.length = t.size := by rw [Go.ByteArray.toList_eq]; rfl
    omega
  have hb : ((t[0].toNat : Nat) : Int) ≤ 255 := by have := t[0].toNat_lt; omega
  have HF : Hid (kindB t = if letterB (t[0].toNat : Int) then kName else if digitB (t[0].toNat : Int) then kNumber else t) := by show kindB t = _; rw [← bt_in hz]; (unfold kindB isTy isKw; rw [h0, h1, h2, h3, h4, h5, h6, h7]; try rfl)
  have hz' : (0 : Int) < (t.size : Int) := by omega
  go_enter Tryz.func33, Tryz.ntmps33
  go_wp2_with (first
    | (go_at_call 56; refine (isLetter_any _ _ (by omega) (by omega)).mono ?_; rintro e w' ⟨rfl, rfl⟩)
    | (go_at_call 58; refine (isDigit_any _ _ (by omega) (by omega)).mono ?_; rintro e w' ⟨rfl, rfl⟩))
  all_goals go_ret
  · exact ⟨ret_str (by rw [unhide HF, ‹letterB _ = true›]; rfl), rfl⟩
  · exact ⟨ret_str (by rw [unhide HF, ‹letterB _ = false›, ‹digitB _ = true›]; rfl), rfl⟩
  · exact ⟨ret_str (by rw [unhide HF, ‹letterB _ = false›, ‹digitB _ = false›]; rfl), rfl⟩

end Go.Proofs.YtdaneedflpfeaabGreatDoor

namespace Go.Proofs.YtdaneedflpfeaabGreatDoor
set_option maxRecDepth 100000
open Go.RowKit

structure Tok where
  kind : ByteArray
  text : ByteArray
  place : Nat
def tokCells (t : Tok) : List Value := [.string t.kind, .string t.text, .int .i64 t.place]
def toksCells (l : List Tok) : List Value := l.flatMap tokCells
theorem toksCells_len (l : List Tok) : (toksCells l).length = l.length * 3 := by
  induction l with
  | nil => rfl
  | cons t l ih => simp only [toksCells, List.flatMap_cons, List.length_append, List.length_cons] at *; rw [ih]; simp [tokCells]; omega
theorem toksCells_snoc (l : List Tok) (t : Tok) : toksCells (l ++ [t]) = toksCells l ++ tokCells t := by simp [toksCells]

theorem tokenE_bd (s : ByteArray) (p : Nat) (h : p ≤ s.size) : p ≤ tokenE s p ∧ tokenE s p ≤ s.size := by
  unfold tokenE
  have a1 := runE_ge wordB s p; have a2 := runE_le wordB s p h
  have b1 := runE_ge digitB s p; have b2 := runE_le digitB s p h
  by_cases hp : s.size ≤ p
  · rw [if_pos hp]; omega
  rw [if_neg hp]
  split
  · omega
  split
  · omega
  unfold signE
  split
  · omega
  split
  · rename_i hl; simp [longB] at hl; omega
  split
  · omega
  · omega
theorem tokenE_out {s : ByteArray} {p : Nat} (h : s.size ≤ p) : tokenE s p = p := by simp [tokenE, h]

/-- The tokens of a text from a place on: up to the end, or the first that is none. -/
def scanL (s : ByteArray) (i : Nat) : List Tok :=
  if _h : aheadE s i < tokenE s (aheadE s i) ∧ i ≤ s.size then
    ⟨kindB (s.extract (aheadE s i) (tokenE s (aheadE s i))), s.extract i (tokenE s (aheadE s i)), aheadE s i⟩ :: scanL s (tokenE s (aheadE s i))
  else [⟨if aheadE s i < s.size then kNone else kEnd, s.extract i (aheadE s i), aheadE s i⟩]
  termination_by s.size - i
  decreasing_by
  have h1 := aheadE_bd s i _h.2
  have : aheadE s i < s.size := by
    by_cases g : aheadE s i < s.size
    · exact g
    · have := tokenE_out (s := s) (p := aheadE s i) (by omega); omega
  omega
theorem scanL_go {s : ByteArray} {i p e : Nat} (hi : i ≤ s.size) (hp : aheadE s i = p) (he : tokenE s p = e) (h : p < e) :
    scanL s i = ⟨kindB (s.extract p e), s.extract i e, p⟩ :: scanL s e := by
  subst hp; subst he
  rw [scanL, dif_pos ⟨h, hi⟩]
theorem scanL_stop {s : ByteArray} {i p : Nat} (hp : aheadE s i = p) (h : ¬ p < tokenE s p) :
    scanL s i = [⟨if p < s.size then kNone else kEnd, s.extract i p, p⟩] := by
  subst hp
  rw [scanL, dif_neg (fun g => h g.1)]

theorem Tryz.infoTok : (Tryz.prog.info? 75).map (fun i => (i.zero, i.size, i.bytes)) = some (some (.agg #[.string ⟨#[]⟩, .string ⟨#[]⟩, .int .i64 0]), 3, 40) := by kernel_rfl

theorem tok_news {w : World} {B : Nat} {T : TypeId} (k x : ByteArray) (p : Int) (hb : w.heap[B]? = some (.cells #[.string k, .string x, .int .i64 p] T (0, 0))) :
    ∀ j u, [Value.string k, .string x, .int .i64 p][j]? = some u → w.cell? ((⟨B, 0, none⟩ : Addr).add j) = some u := World.news_of_block hb
theorem tok_one (k x : ByteArray) (p : Int) : ∀ u ∈ [Value.string k, .string x, .int .i64 p], u.oneCell' = true := by
  intro u hu; simp at hu; rcases hu with rfl | rfl | rfl <;> rfl

set_option maxHeartbeats 1600000 in
set_option maxRecDepth 100000 in
theorem scan_any (s : ByteArray) (w : World) (hs : s.size ≤ 600) :
    Calls Tryz.prog 18 #[.string s] w fun e w' => ∃ g cap, e = .returned (.slice (some ⟨g, 0, none⟩) (scanL s 0).length cap) ∧
      w'.ownsRow w.heap.size 75 3 (.slice (some ⟨g, 0, none⟩) (scanL s 0).length cap) (scanL s 0).length (toksCells (scanL s 0)) ∧ Below w.heap.size w w' ∧ g < w'.heap.size := by
  obtain ⟨i0, hi, hz0, hz1, hz2⟩ := info_parts Tryz.infoTok
  go_enter Tryz.func18, Tryz.ntmps18
  go_wp2_with (first
    | (go_at_call 31; refine (aheadEnd_any _ _ _ hs (by omega) (by omega)).mono ?_; rintro e w' ⟨rfl, rfl⟩)
    | (go_at_call 32; refine (tokenEnd_any _ _ _ hs (by omega) (by have := aheadE_bd s 0 (by omega); omega)).mono ?_; rintro e w' ⟨rfl, rfl⟩))
  go_loopw [3, 4, 5, 6, 7] (fun l f p e _ wr => ∃ (L : List Tok) (i : Nat), i ≤ s.size ∧ L.length ≤ i ∧ f = .int .i64 i ∧ p = .int .i64 (aheadE s i) ∧ e = .int .i64 (tokenE s (aheadE s i)) ∧
      wr.ownsRow w'.heap.size 75 3 l L.length (toksCells L) ∧ L ++ scanL s i = scanL s 0 ∧ Below w'.heap.size w' wr) (fun _ f _ _ _ _ => s.size - (intOf f).toNat)
  case atStart => exact ⟨[], 0, by omega, by simp, rfl, rfl, rfl, World.ownsRow_nil _ _ _ _, rfl, Below.refl _ _⟩
  case round =>
    obtain ⟨L, i, hi1, hL, rfl, rfl, rfl, hown, hE, hbel⟩ := hrel
    have HE := hide hE
    clear hE
    have ha := aheadE_bd s i hi1
    have ht := tokenE_bd s (aheadE s i) ha.2
    have HG := hide (fun p e => @scanL_go s i p e hi1)
    have HS := hide (fun p => @scanL_stop s i p)
    have HB := hide hbel
    have hsz := hbel.size
    clear hbel
    generalize hp : aheadE s i = p at *
    generalize he : tokenE s p = e at *
    have HT := hide he
    clear he
    by_cases hlt : p < e
    · have c1 := toksCells_len L
      go_wp2_with (first
        | (go_at_call 33; refine (kindOf_any _ _).mono ?_; rintro e w1 ⟨rfl, hw⟩; have hw := hw.symm; subst hw)
        | (at_builtin; refine wpList_append_lies _ rfl (.tmp 23) (.tmp 31) 47 rfl w'.heap.size 75 i0 (.agg #[.string ⟨#[]⟩, .string ⟨#[]⟩, .int .i64 0]) 3 40 Tryz.underlying47 hi hz0 hz1 hz2 rfl (by decide) _ L.length (toksCells L) rfl (hown.alloc _) ⟨wr.heap.size, 0, none⟩ 1 1 [.string (kindB (s.extract p e)), .string (s.extract i e), .int .i64 p] rfl rfl (tok_news _ _ _ (heap_alloc_new _ _)) (tok_one _ _ _) (by decide) (by unfold maxLen; omega) (by omega) (by simp; omega) _ rfl ?_)
        | fail)
      intro g cap w2 hown2 hgrow _ hlt2
      have hB2 : Below w'.heap.size w' w2 := ((unhide HB).alloc hsz _).grown hgrow (by simp; omega) (fun k hk => (hown.lt k hk).1)
      have HB2 := hide hB2
      have HO2 := hide hown2
      clear hown2 hgrow hB2 hown HB
      have ha2 := aheadE_bd s e ht.2
      go_wp2_with (first
        | (go_at_call 31; refine (aheadEnd_any _ _ _ hs (by omega) (by omega)).mono ?_; rintro e w1 ⟨rfl, hw⟩; have hw := hw.symm; subst hw)
        | (go_at_call 32; refine (tokenEnd_any _ _ _ hs (by omega) (by omega)).mono ?_; rintro e w1 ⟨rfl, hw⟩; have hw := hw.symm; subst hw))
      go_roundw
      case rel =>
        refine ⟨L ++ [⟨kindB (s.extract p e), s.extract i e, p⟩], e, ht.2, by simp; omega, rfl, rfl, rfl, ?_, ?_, unhide HB2⟩
        · rw [toksCells_snoc, List.length_append]; exact unhide HO2
        · rw [← unhide HE, unhide HG p e rfl (unhide HT) hlt]; simp
      case measure => simp [intOf]; omega
    · have c1 := toksCells_len L
      have HF : Hid (scanL s i = [⟨if p < s.size then kNone else kEnd, s.extract i p, p⟩]) := unhide HS p rfl (by rw [unhide HT]; exact hlt)
      have HF2 : Hid (∀ k, (if p < s.size then kNone else kEnd) = k → scanL s 0 = L ++ [⟨k, s.extract i p, p⟩]) := fun k hk => by rw [← unhide HE, unhide HF, hk]
      by_cases hps : p < s.size
      · have HK := hide (unhide HF2 kNone (if_pos hps))
        go_wp2_with (first
          | (at_builtin; refine wpList_append_lies _ rfl (.tmp 44) (.tmp 52) 47 rfl w'.heap.size 75 i0 (.agg #[.string ⟨#[]⟩, .string ⟨#[]⟩, .int .i64 0]) 3 40 Tryz.underlying47 hi hz0 hz1 hz2 rfl (by decide) _ L.length (toksCells L) rfl (hown.alloc _) ⟨wr.heap.size, 0, none⟩ 1 1 [.string kNone, .string (s.extract i p), .int .i64 p] rfl rfl (tok_news _ _ _ (heap_alloc_new _ _)) (tok_one _ _ _) (by decide) (by unfold maxLen; omega) (by omega) (by simp; omega) _ rfl ?_)
          | fail)
        intro g cap w2 hown2 hgrow _ hlt2
        have hB2 : Below w'.heap.size w' w2 := ((unhide HB).alloc hsz _).grown hgrow (by simp; omega) (fun k hk => (hown.lt k hk).1)
        have HB2 := hide hB2
        have HO2 := hide hown2
        clear hown2 hgrow hB2 hown HB
        go_wp2_with fail
        go_ret
        refine ⟨g, cap, ?_, ?_, unhide HB2, hlt2⟩
        · rw [unhide HK, List.length_append]; rfl
        · rw [unhide HK, toksCells_snoc, List.length_append]; exact unhide HO2
      · have HK := hide (unhide HF2 kEnd (if_neg hps))
        go_wp2_with (first
          | (at_builtin; refine wpList_append_lies _ rfl (.tmp 44) (.tmp 52) 47 rfl w'.heap.size 75 i0 (.agg #[.string ⟨#[]⟩, .string ⟨#[]⟩, .int .i64 0]) 3 40 Tryz.underlying47 hi hz0 hz1 hz2 rfl (by decide) _ L.length (toksCells L) rfl (hown.alloc _) ⟨wr.heap.size, 0, none⟩ 1 1 [.string kEnd, .string (s.extract i p), .int .i64 p] rfl rfl (tok_news _ _ _ (heap_alloc_new _ _)) (tok_one _ _ _) (by decide) (by unfold maxLen; omega) (by omega) (by simp; omega) _ rfl ?_)
          | fail)
        intro g cap w2 hown2 hgrow _ hlt2
        have hB2 : Below w'.heap.size w' w2 := ((unhide HB).alloc hsz _).grown hgrow (by simp; omega) (fun k hk => (hown.lt k hk).1)
        have HB2 := hide hB2
        have HO2 := hide hown2
        clear hown2 hgrow hB2 hown HB
        go_wp2_with fail
        go_ret
        refine ⟨g, cap, ?_, ?_, unhide HB2, hlt2⟩
        · rw [unhide HK, List.length_append]; rfl
        · rw [unhide HK, toksCells_snoc, List.length_append]; exact unhide HO2

end Go.Proofs.YtdaneedflpfeaabGreatDoor
