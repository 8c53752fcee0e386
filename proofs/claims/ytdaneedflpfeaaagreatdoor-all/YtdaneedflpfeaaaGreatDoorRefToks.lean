import Derived.Test.YtdaneedflpfeaaaGreatDoorToks
import Derived.Lib.Strings
namespace Go.Proofs.YtdaneedflpfeaaaGreatDoor
set_option maxRecDepth 100000
open Go.RowKit

set_option maxHeartbeats 400000 in
theorem alpha_any (c : Int) (w : World) (h0 : 0 ≤ c) (h1 : c ≤ 255) :
    Calls Tryz.prog 65 #[.int .u8 c] w fun e w' => e = .returned (.bool (letterB c)) ∧ w' = w := by
  go_enter Tryz.func65, Tryz.ntmps65
  go_wp2
  all_goals go_ret
  all_goals exact ⟨ret_bool (by rw [Bool.eq_iff_iff]; first | (simp [letterB]; done) | (simp [letterB]; omega) | (simp at *; simp [letterB]; omega)), rfl⟩
set_option maxHeartbeats 400000 in
theorem num_any (c : Int) (w : World) (h0 : 0 ≤ c) (h1 : c ≤ 255) :
    Calls Tryz.prog 66 #[.int .u8 c] w fun e w' => e = .returned (.bool (digitB c)) ∧ w' = w := by
  go_enter Tryz.func66, Tryz.ntmps66
  go_wp2
  all_goals go_ret
  all_goals exact ⟨ret_bool (by rw [Bool.eq_iff_iff]; first | (simp [digitB]; done) | (simp [digitB]; omega) | (simp at *; simp [digitB]; omega)), rfl⟩

def beginsB (s : ByteArray) (i : Nat) (t : ByteArray) : Bool := decide (i + t.size ≤ s.size) && (s.extract i (i + t.size)).toList == t.toList
set_option maxHeartbeats 400000 in
theorem begins_any (s t : ByteArray) (i : Int) (w : World) (hs : s.size ≤ 600) (ht : t.size ≤ 600) (h0 : 0 ≤ i) (h1 : i ≤ 1000) :
    Calls Tryz.prog 67 #[.string s, .int .i64 i, .string t] w fun e w' => e = .returned (.bool (beginsB s i.toNat t)) ∧ w' = w := by
  obtain ⟨k, rfl⟩ := Int.eq_ofNat_of_zero_le h0
  rw [Int.toNat_natCast]
  by_cases hlt : k + t.size ≤ s.size
  · have HF : Hid (beginsB s k t = ((s.extract k (k + t.size)).toList == t.toList)) := by show beginsB s k t = _; simp [beginsB, hlt]
    have hkt : ((k : Int) + (t.size : Int)).toNat = k + t.size := by omega
    go_enter Tryz.func67, Tryz.ntmps67
    go_wp2
    go_ret
    exact ⟨ret_bool (by rw [unhide HF]), rfl⟩
  · have HF : Hid (beginsB s k t = false) := by show beginsB s k t = _; simp [beginsB, hlt]
    go_enter Tryz.func67, Tryz.ntmps67
    go_wp2
    go_ret
    exact ⟨ret_bool (by rw [unhide HF]), rfl⟩

theorem ext2 (s : ByteArray) (k : Nat) (h : k + 2 ≤ s.size) : (s.extract k (k + 2)).toList = [s[k], s[k + 1]] := by
  rw [Lib.extract_toList, show k + 2 - k = 2 from by omega, List.drop_eq_getElem_cons (by show k < s.size; omega), List.drop_eq_getElem_cons (by show k + 1 < s.size; omega)]
  rfl
theorem begins_pair (s : ByteArray) (k : Nat) (a b : UInt8) : beginsB s k ⟨#[a, b]⟩ = pairB s k (a.toNat : Int) (b.toNat : Int) := by
  have hsz : (⟨#[a, b]⟩ : ByteArray).size = 2 := rfl
  have hl : (⟨#[a, b]⟩ : ByteArray).toList = [a, b] := by rw [Go.ByteArray.toList_eq]
  unfold beginsB pairB
  rw [hsz, hl]
  by_cases h : k + 2 ≤ s.size
  · rw [ext2 s k h, bt_in (show k < s.size by omega), bt_in (show k + 1 < s.size by omega), Bool.eq_iff_iff]
    simp [h, ← UInt8.toNat_inj]
    omega
  · have : bt s (k + 1) = -1 := bt_out (by omega)
    rw [this]
    have hb : ((-1 : Int) == (b.toNat : Int)) = false := by rw [beq_eq_false_iff_ne]; omega
    simp [h, hb]

/-- What skip answers: the place behind blanks and comments; -1 where a comment has no end. -/
def skipI (s : ByteArray) (p : Nat) : Int := if p < s.size ∧ pairB s p 47 42 = true then -1 else p

theorem closeE_step {s : ByteArray} {i : Nat} (hi : i < s.size) (hp : pairB s i 42 47 = false) : closeE s i = closeE s (i + 1) := by rw [closeE]; simp [hi, hp]
theorem closeE_hit {s : ByteArray} {i : Nat} (hi : i < s.size) (hp : pairB s i 42 47 = true) : closeE s i = some (i + 2) := by rw [closeE]; simp [hi, hp]
theorem closeE_out {s : ByteArray} {i : Nat} (hi : ¬ i < s.size) : closeE s i = none := by rw [closeE]; simp [hi]

set_option maxHeartbeats 3200000 in
set_option maxRecDepth 100000 in
theorem skip_any (s : ByteArray) (i : Int) (w : World) (hs : s.size ≤ 600) (h0 : 0 ≤ i) (h1 : i ≤ s.size) :
    Calls Tryz.prog 64 #[.string s, .int .i64 i] w fun e w' => e = .returned (.tuple #[.int .i64 (skipI s (aheadE s i.toNat)), .int .i64 (aheadE s i.toNat)]) ∧ w' = w := by
  obtain ⟨k0, rfl⟩ := Int.eq_ofNat_of_zero_le h0
  rw [Int.toNat_natCast]
  go_enter Tryz.func64, Tryz.ntmps64
  go_wp2
  go_loop [1, 6, 7] (fun i _ _ => ∃ k : Nat, k ≤ s.size ∧ i = .int .i64 k ∧ Hid (aheadE s k = aheadE s k0)) (fun i _ _ => s.size - (intOf i).toNat)
  case atStart => exact ⟨k0, by omega, rfl, rfl⟩
  case round =>
    obtain ⟨k, hk, rfl, HE⟩ := hrel
    by_cases hlt : k < s.size
    · have E0 := hide (bt_in hlt)
      have hb1 : ((s[k].toNat : Nat) : Int) ≤ 255 := by have := s[k].toNat_lt; omega
      have HG := hide (fun (h : k < pieceE s k) => aheadE_go h)
      have HS := hide (fun (h : ¬ k < pieceE s k) => aheadE_stop h)
      have HP : Hid (pieceE s k = if blankB (bt s k) then k + 1 else if pairB s k 47 47 then runE noLf s k else if pairB s k 47 42 then commentE s k else k) := by show pieceE s k = _; unfold pieceE; rw [if_neg (by omega)]
      have B1 : beginsB s k ⟨#[47, 47]⟩ = pairB s k 47 47 := begins_pair s k 47 47
      have B2 : beginsB s k ⟨#[47, 42]⟩ = pairB s k 47 42 := begins_pair s k 47 42
      cases hbl : blankB (s[k].toNat : Int) with
      | true =>
        have HP1 : Hid (pieceE s k = k + 1) := by show pieceE s k = _; rw [unhide HP, unhide E0, hbl]; rfl
        have HA : Hid (aheadE s (k + 1) = aheadE s k0) := by show aheadE s (k + 1) = _; rw [← unhide HE, unhide HG (by rw [unhide HP1]; omega), unhide HP1]
        have hor : (s[k].toNat : Int) = 32 ∨ (s[k].toNat : Int) = 9 ∨ (s[k].toNat : Int) = 10 ∨ (s[k].toNat : Int) = 13 := by simpa [blankB] using hbl
        clear hbl B1 B2
        rcases hor with h | h | h | h
        · have q0 : ((s[k].toNat : Int) == 32) = true := by simp [h]
          clear h
          go_wp2_with fail
          go_round
          case rel => exact ⟨k + 1, by omega, by go_num, HA⟩
          case measure => simp [intOf]; omega
        · have q0 : ((s[k].toNat : Int) == 32) = false := by simp [h]
          have q1 : ((s[k].toNat : Int) == 9) = true := by simp [h]
          clear h
          go_wp2_with fail
          go_round
          case rel => exact ⟨k + 1, by omega, by go_num, HA⟩
          case measure => simp [intOf]; omega
        · have q0 : ((s[k].toNat : Int) == 32) = false := by simp [h]
          have q1 : ((s[k].toNat : Int) == 9) = false := by simp [h]
          have q2 : ((s[k].toNat : Int) == 10) = true := by simp [h]
          clear h
          go_wp2_with fail
          go_round
          case rel => exact ⟨k + 1, by omega, by go_num, HA⟩
          case measure => simp [intOf]; omega
        · have q0 : ((s[k].toNat : Int) == 32) = false := by simp [h]
          have q1 : ((s[k].toNat : Int) == 9) = false := by simp [h]
          have q2 : ((s[k].toNat : Int) == 10) = false := by simp [h]
          have q3 : ((s[k].toNat : Int) == 13) = true := by simp [h]
          clear h
          go_wp2_with fail
          go_round
          case rel => exact ⟨k + 1, by omega, by go_num, HA⟩
          case measure => simp [intOf]; omega
      | false =>
        have hno : ¬ ((s[k].toNat : Int) = 32 ∨ (s[k].toNat : Int) = 9 ∨ (s[k].toNat : Int) = 10 ∨ (s[k].toNat : Int) = 13) := by simpa [blankB] using hbl
        have q0 : ((s[k].toNat : Int) == 32) = false := by rw [beq_eq_false_iff_ne]; exact fun h => hno (.inl h)
        have q1 : ((s[k].toNat : Int) == 9) = false := by rw [beq_eq_false_iff_ne]; exact fun h => hno (.inr (.inl h))
        have q2 : ((s[k].toNat : Int) == 10) = false := by rw [beq_eq_false_iff_ne]; exact fun h => hno (.inr (.inr (.inl h)))
        have q3 : ((s[k].toNat : Int) == 13) = false := by rw [beq_eq_false_iff_ne]; exact fun h => hno (.inr (.inr (.inr h)))
        have HP1 : Hid (pieceE s k = if pairB s k 47 47 then runE noLf s k else if pairB s k 47 42 then commentE s k else k) := by show pieceE s k = _; rw [unhide HP, unhide E0, hbl]; rfl
        clear hno hbl HP
        cases hp1 : pairB s k 47 47 with
        | true =>
          rw [hp1] at B1
          have hnl : ((s[k].toNat : Int) != 10) = true := by simp at q2; simp [q2]
          have HP2 : Hid (pieceE s k = runE noLf s k) := by show pieceE s k = _; rw [unhide HP1, hp1]; rfl
          have hge := runE_ge noLf s (k + 1)
          have hle := runE_le noLf s k hk
          have HR0 : Hid (runE noLf s k = runE noLf s (k + 1)) := runE_yes hlt (by rw [unhide E0]; exact hnl)
          have hgt : k + 1 ≤ runE noLf s k := by rw [unhide HR0]; exact hge
          have HA : Hid (aheadE s (runE noLf s k) = aheadE s k0) := by show aheadE s (runE noLf s k) = _; rw [← unhide HE, unhide HG (by rw [unhide HP2]; omega), unhide HP2]
          clear hp1 hnl HP1 hge HR0
          go_wp2_with (go_at_call 67; refine (begins_any s _ _ _ hs (by decide) (by omega) (by omega)).mono ?_; rintro e w1 ⟨rfl, hw⟩; have hw := hw.symm; subst hw)
          go_loop [1] (fun i => ∃ j : Nat, k ≤ j ∧ j ≤ s.size ∧ i = .int .i64 j ∧ Hid (runE noLf s j = runE noLf s k)) (fun i => s.size - (intOf i).toNat)
          case atStart => exact ⟨k, Nat.le_refl _, hk, rfl, rfl⟩
          case round =>
            obtain ⟨j, hj1, hj2, rfl, HJ⟩ := hrel
            by_cases hjl : j < s.size
            · have E1 := hide (bt_in hjl)
              cases hn : ((s[j].toNat : Int) != 10) with
              | true =>
                have HJ2 : Hid (runE noLf s (j + 1) = runE noLf s k) := by show runE noLf s (j + 1) = _; rw [← unhide HJ, runE_yes hjl (by rw [unhide E1]; exact hn)]
                go_wp2_with fail
                go_round
                case rel => exact ⟨j + 1, by omega, by omega, by go_num, HJ2⟩
                case measure => simp [intOf]; omega
              | false =>
                have HJ2 : Hid (runE noLf s k = j) := by show runE noLf s k = _; rw [← unhide HJ, runE_no (fun _ => by rw [unhide E1]; exact hn)]
                have hjj : k < j := by have := unhide HJ2; omega
                rw [unhide HJ2] at HA
                go_wp2_with fail
                go_round
                case rel => exact ⟨j, by omega, rfl, HA⟩
                case measure => simp [intOf]; omega
            · have HJ2 : Hid (runE noLf s k = j) := by show runE noLf s k = _; rw [← unhide HJ, runE_no (fun h => absurd h hjl)]
              have hjj : k < j := by have := unhide HJ2; omega
              rw [unhide HJ2] at HA
              go_wp2_with fail
              go_round
              case rel => exact ⟨j, by omega, rfl, HA⟩
              case measure => simp [intOf]; omega
        | false =>
          rw [hp1] at B1
          cases hp2 : pairB s k 47 42 with
          | false =>
            rw [hp2] at B2
            have HP2 : Hid (pieceE s k = k) := by show pieceE s k = _; rw [unhide HP1, hp1, hp2]; rfl
            have HA : Hid (aheadE s k0 = k) := by show aheadE s k0 = _; rw [← unhide HE, unhide HS (by rw [unhide HP2]; omega)]
            have HI : Hid (skipI s (aheadE s k0) = k) := by show skipI s (aheadE s k0) = _; rw [unhide HA]; simp [skipI, hp2]
            clear hp1 hp2 HP1
            go_wp2_with (go_at_call 67; refine (begins_any s _ _ _ hs (by decide) (by omega) (by omega)).mono ?_; rintro e w1 ⟨rfl, hw⟩; have hw := hw.symm; subst hw)
            go_ret2
            rw [unhide HI, unhide HA]
            exact ⟨rfl, rfl⟩
          | true =>
            rw [hp2] at B2
            have HP2 : Hid (pieceE s k = (closeE s (k + 2)).getD k) := by show pieceE s k = _; rw [unhide HP1, hp1, hp2]; rfl
            clear hp1 HP1
            go_wp2_with (go_at_call 67; refine (begins_any s _ _ _ hs (by decide) (by omega) (by omega)).mono ?_; rintro e w1 ⟨rfl, hw⟩; have hw := hw.symm; subst hw)
            go_loop [6, 7] (fun e i => ∃ j : Nat, k + 2 ≤ j ∧ j ≤ s.size + 2 ∧ i = .int .i64 j ∧ ((e = .int .i64 (-1) ∧ Hid (closeE s j = closeE s (k + 2))) ∨ ∃ m : Nat, e = .int .i64 m ∧ Hid (closeE s (k + 2) = some m))) (fun _ i => s.size + 2 - (intOf i).toNat)
            case atStart => exact ⟨k + 2, Nat.le_refl _, by omega, by go_num, .inl ⟨rfl, rfl⟩⟩
            case round =>
              obtain ⟨j, hj1, hj2, rfl, hcase⟩ := hrel
              rcases hcase with ⟨rfl, HJ⟩ | ⟨m, rfl, HM⟩
              · by_cases hjl : j < s.size
                · have B3 : beginsB s j ⟨#[42, 47]⟩ = pairB s j 42 47 := begins_pair s j 42 47
                  cases hpj : pairB s j 42 47 with
                  | true =>
                    rw [hpj] at B3
                    have HM : Hid (closeE s (k + 2) = some (j + 2)) := by show closeE s (k + 2) = _; rw [← unhide HJ, closeE_hit hjl hpj]
                    go_wp2_with (go_at_call 67; refine (begins_any s _ _ _ hs (by decide) (by omega) (by omega)).mono ?_; rintro e w1 ⟨rfl, hw⟩; have hw := hw.symm; subst hw)
                    go_round
                    case rel => exact ⟨j + 1, by omega, by omega, by go_num, .inr ⟨j + 2, by go_num, HM⟩⟩
                    case measure => simp [intOf]; omega
                  | false =>
                    rw [hpj] at B3
                    have HJ2 : Hid (closeE s (j + 1) = closeE s (k + 2)) := by show closeE s (j + 1) = _; rw [← unhide HJ, closeE_step hjl hpj]
                    go_wp2_with (go_at_call 67; refine (begins_any s _ _ _ hs (by decide) (by omega) (by omega)).mono ?_; rintro e w1 ⟨rfl, hw⟩; have hw := hw.symm; subst hw)
                    go_round
                    case rel => exact ⟨j + 1, by omega, by omega, by go_num, .inl ⟨rfl, HJ2⟩⟩
                    case measure => simp [intOf]; omega
                · have HA : Hid (aheadE s k0 = k) := by
                    show aheadE s k0 = _
                    rw [← unhide HE, unhide HS]
                    rw [unhide HP2, ← unhide HJ, closeE_out hjl]; simp
                  have HI : Hid (skipI s (aheadE s k0) = -1) := by show skipI s (aheadE s k0) = _; rw [unhide HA]; simp [skipI, hp2, hlt]
                  clear hp2
                  go_wp2_with fail
                  go_ret2
                  rw [unhide HI, unhide HA]
                  exact ⟨rfl, rfl⟩
              · have hcl := closeE_some (unhide HM)
                have HA : Hid (aheadE s m = aheadE s k0) := by
                  show aheadE s m = _
                  have hpm : pieceE s k = m := by rw [unhide HP2, unhide HM]; rfl
                  rw [← unhide HE, unhide HG (by rw [hpm]; omega), hpm]
                clear hp2
                by_cases hjl : j < s.size
                · go_wp2_with fail
                  go_round
                  case rel => exact ⟨m, by omega, rfl, HA⟩
                  case measure => simp [intOf]; omega
                · go_wp2_with fail
                  go_round
                  case rel => exact ⟨m, by omega, rfl, HA⟩
                  case measure => simp [intOf]; omega
    · have HA : Hid (aheadE s k0 = k) := by show aheadE s k0 = _; rw [← unhide HE, aheadE_stop (by rw [pieceE_out (by omega)]; omega)]
      have HI : Hid (skipI s (aheadE s k0) = k) := by show skipI s (aheadE s k0) = _; rw [unhide HA]; simp [skipI, hlt]
      go_wp2_with fail
      go_ret2
      rw [unhide HI, unhide HA]
      exact ⟨rfl, rfl⟩

end Go.Proofs.YtdaneedflpfeaaaGreatDoor

namespace Go.Proofs.YtdaneedflpfeaaaGreatDoor
set_option maxRecDepth 100000
open Go.RowKit

structure RTok where
  what : ByteArray
  at_ : Nat
  whole : ByteArray
def rtokCells (t : RTok) : List Value := [.string t.what, .int .i64 t.at_, .string t.whole]
def rtoksCells (l : List RTok) : List Value := l.flatMap rtokCells
theorem rtoksCells_len (l : List RTok) : (rtoksCells l).length = l.length * 3 := by
  induction l with
  | nil => rfl
  | cons t l ih => simp only [rtoksCells, List.flatMap_cons, List.length_append, List.length_cons] at *; rw [ih]; simp [rtokCells]; omega
theorem rtoksCells_snoc (l : List RTok) (t : RTok) : rtoksCells (l ++ [t]) = rtoksCells l ++ rtokCells t := by simp [rtoksCells]
/-- The document's name of a token: itself, for a type too. -/
def whatB (raw : ByteArray) : ByteArray := if isTy raw.toList then raw else kindB raw
def emptyB : ByteArray := ⟨#[]⟩
def rscan (s : ByteArray) (i : Nat) : List RTok :=
  if _h : aheadE s i < tokenE s (aheadE s i) ∧ i ≤ s.size then
    ⟨whatB (s.extract (aheadE s i) (tokenE s (aheadE s i))), aheadE s i, s.extract i (tokenE s (aheadE s i))⟩ :: rscan s (tokenE s (aheadE s i))
  else [if aheadE s i < s.size then ⟨kNone, aheadE s i, emptyB⟩ else ⟨kEnd, aheadE s i, s.extract i (aheadE s i)⟩]
  termination_by s.size - i
  decreasing_by
    have h1 := aheadE_bd s i _h.2
    have : aheadE s i < s.size := by
      by_cases g : aheadE s i < s.size
      · exact g
      · have := tokenE_out (s := s) (p := aheadE s i) (by omega); omega
    omega
theorem rscan_go {s : ByteArray} {i p e : Nat} (hi : i ≤ s.size) (hp : aheadE s i = p) (he : tokenE s p = e) (h : p < e) :
    rscan s i = ⟨whatB (s.extract p e), p, s.extract i e⟩ :: rscan s e := by
  subst hp; subst he
  rw [rscan, dif_pos ⟨h, hi⟩]
theorem rscan_stop {s : ByteArray} {i p : Nat} (hp : aheadE s i = p) (h : ¬ p < tokenE s p) :
    rscan s i = [if p < s.size then ⟨kNone, p, emptyB⟩ else ⟨kEnd, p, s.extract i p⟩] := by
  subst hp
  rw [rscan, dif_neg (fun g => h g.1)]

def kws : List ByteArray := [⟨#[105, 110, 116]⟩, ⟨#[99, 104, 97, 114]⟩, ⟨#[118, 111, 105, 100]⟩, ⟨#[105, 102]⟩, ⟨#[101, 108, 115, 101]⟩, ⟨#[119, 104, 105, 108, 101]⟩, ⟨#[114, 101, 116, 117, 114, 110]⟩]
def sgs : List ByteArray := [⟨#[61, 61]⟩, ⟨#[33, 61]⟩, ⟨#[38, 38]⟩, ⟨#[124, 124]⟩, ⟨#[40]⟩, ⟨#[41]⟩, ⟨#[123]⟩, ⟨#[125]⟩, ⟨#[44]⟩, ⟨#[59]⟩, ⟨#[61]⟩, ⟨#[60]⟩, ⟨#[62]⟩, ⟨#[43]⟩, ⟨#[45]⟩, ⟨#[42]⟩, ⟨#[47]⟩, ⟨#[33]⟩]
def kwV : Array Value := (kws.map Value.string).toArray
def sgV : Array Value := (sgs.map Value.string).toArray
/-- The document's two tables lie as the program's text lays them. -/
structure Glob (w : World) : Prop where
  kw : ∃ T fr, w.heap[0]? = some (.cells kwV T fr)
  sg : ∃ T fr, w.heap[1]? = some (.cells sgV T fr)
theorem Glob.below {w w' : World} {B : Nat} (h : Glob w) (hb : Below B w w') (hB : 2 ≤ B) : Glob w' := by
  obtain ⟨⟨t0, f0, h0⟩, ⟨t1, f1, h1⟩⟩ := h
  exact ⟨⟨t0, f0, (hb.block 0 (by omega)).trans h0⟩, ⟨t1, f1, (hb.block 1 (by omega)).trans h1⟩⟩
theorem kw_ix0 (w : World) : (Instr.index 114 (.agg kwV) (.int .i64 0)).run Tryz.prog w = .ok (.string ⟨#[105, 110, 116]⟩) w := by kernel_rfl
theorem kw_ix1 (w : World) : (Instr.index 114 (.agg kwV) (.int .i64 1)).run Tryz.prog w = .ok (.string ⟨#[99, 104, 97, 114]⟩) w := by kernel_rfl
theorem kw_ix2 (w : World) : (Instr.index 114 (.agg kwV) (.int .i64 2)).run Tryz.prog w = .ok (.string ⟨#[118, 111, 105, 100]⟩) w := by kernel_rfl
theorem kw_ix3 (w : World) : (Instr.index 114 (.agg kwV) (.int .i64 3)).run Tryz.prog w = .ok (.string ⟨#[105, 102]⟩) w := by kernel_rfl
theorem kw_ix4 (w : World) : (Instr.index 114 (.agg kwV) (.int .i64 4)).run Tryz.prog w = .ok (.string ⟨#[101, 108, 115, 101]⟩) w := by kernel_rfl
theorem kw_ix5 (w : World) : (Instr.index 114 (.agg kwV) (.int .i64 5)).run Tryz.prog w = .ok (.string ⟨#[119, 104, 105, 108, 101]⟩) w := by kernel_rfl
theorem kw_ix6 (w : World) : (Instr.index 114 (.agg kwV) (.int .i64 6)).run Tryz.prog w = .ok (.string ⟨#[114, 101, 116, 117, 114, 110]⟩) w := by kernel_rfl
theorem sg_ix0 (w : World) : (Instr.index 115 (.agg sgV) (.int .i64 0)).run Tryz.prog w = .ok (.string ⟨#[61, 61]⟩) w := by kernel_rfl
theorem sg_ix1 (w : World) : (Instr.index 115 (.agg sgV) (.int .i64 1)).run Tryz.prog w = .ok (.string ⟨#[33, 61]⟩) w := by kernel_rfl
theorem sg_ix2 (w : World) : (Instr.index 115 (.agg sgV) (.int .i64 2)).run Tryz.prog w = .ok (.string ⟨#[38, 38]⟩) w := by kernel_rfl
theorem sg_ix3 (w : World) : (Instr.index 115 (.agg sgV) (.int .i64 3)).run Tryz.prog w = .ok (.string ⟨#[124, 124]⟩) w := by kernel_rfl
theorem sg_ix4 (w : World) : (Instr.index 115 (.agg sgV) (.int .i64 4)).run Tryz.prog w = .ok (.string ⟨#[40]⟩) w := by kernel_rfl
theorem sg_ix5 (w : World) : (Instr.index 115 (.agg sgV) (.int .i64 5)).run Tryz.prog w = .ok (.string ⟨#[41]⟩) w := by kernel_rfl
theorem sg_ix6 (w : World) : (Instr.index 115 (.agg sgV) (.int .i64 6)).run Tryz.prog w = .ok (.string ⟨#[123]⟩) w := by kernel_rfl
theorem sg_ix7 (w : World) : (Instr.index 115 (.agg sgV) (.int .i64 7)).run Tryz.prog w = .ok (.string ⟨#[125]⟩) w := by kernel_rfl
theorem sg_ix8 (w : World) : (Instr.index 115 (.agg sgV) (.int .i64 8)).run Tryz.prog w = .ok (.string ⟨#[44]⟩) w := by kernel_rfl
theorem sg_ix9 (w : World) : (Instr.index 115 (.agg sgV) (.int .i64 9)).run Tryz.prog w = .ok (.string ⟨#[59]⟩) w := by kernel_rfl
theorem sg_ix10 (w : World) : (Instr.index 115 (.agg sgV) (.int .i64 10)).run Tryz.prog w = .ok (.string ⟨#[61]⟩) w := by kernel_rfl
theorem sg_ix11 (w : World) : (Instr.index 115 (.agg sgV) (.int .i64 11)).run Tryz.prog w = .ok (.string ⟨#[60]⟩) w := by kernel_rfl
theorem sg_ix12 (w : World) : (Instr.index 115 (.agg sgV) (.int .i64 12)).run Tryz.prog w = .ok (.string ⟨#[62]⟩) w := by kernel_rfl
theorem sg_ix13 (w : World) : (Instr.index 115 (.agg sgV) (.int .i64 13)).run Tryz.prog w = .ok (.string ⟨#[43]⟩) w := by kernel_rfl
theorem sg_ix14 (w : World) : (Instr.index 115 (.agg sgV) (.int .i64 14)).run Tryz.prog w = .ok (.string ⟨#[45]⟩) w := by kernel_rfl
theorem sg_ix15 (w : World) : (Instr.index 115 (.agg sgV) (.int .i64 15)).run Tryz.prog w = .ok (.string ⟨#[42]⟩) w := by kernel_rfl
theorem sg_ix16 (w : World) : (Instr.index 115 (.agg sgV) (.int .i64 16)).run Tryz.prog w = .ok (.string ⟨#[47]⟩) w := by kernel_rfl
theorem sg_ix17 (w : World) : (Instr.index 115 (.agg sgV) (.int .i64 17)).run Tryz.prog w = .ok (.string ⟨#[33]⟩) w := by kernel_rfl
theorem kw_ix (j : Nat) (h : j < 7) (w : World) : (Instr.index 114 (.agg kwV) (.int .i64 (j : Int))).run Tryz.prog w = .ok (.string (kws[j]'h)) w := by
  have hj : j = 0 ∨ j = 1 ∨ j = 2 ∨ j = 3 ∨ j = 4 ∨ j = 5 ∨ j = 6 := by omega
  rcases hj with rfl | rfl | rfl | rfl | rfl | rfl | rfl
  · exact kw_ix0 w
  · exact kw_ix1 w
  · exact kw_ix2 w
  · exact kw_ix3 w
  · exact kw_ix4 w
  · exact kw_ix5 w
  · exact kw_ix6 w
theorem sg_ix (j : Nat) (h : j < 18) (w : World) : (Instr.index 115 (.agg sgV) (.int .i64 (j : Int))).run Tryz.prog w = .ok (.string (sgs[j]'h)) w := by
  have hj : j = 0 ∨ j = 1 ∨ j = 2 ∨ j = 3 ∨ j = 4 ∨ j = 5 ∨ j = 6 ∨ j = 7 ∨ j = 8 ∨ j = 9 ∨ j = 10 ∨ j = 11 ∨ j = 12 ∨ j = 13 ∨ j = 14 ∨ j = 15 ∨ j = 16 ∨ j = 17 := by omega
  rcases hj with rfl | rfl | rfl | rfl | rfl | rfl | rfl | rfl | rfl | rfl | rfl | rfl | rfl | rfl | rfl | rfl | rfl | rfl
  · exact sg_ix0 w
  · exact sg_ix1 w
  · exact sg_ix2 w
  · exact sg_ix3 w
  · exact sg_ix4 w
  · exact sg_ix5 w
  · exact sg_ix6 w
  · exact sg_ix7 w
  · exact sg_ix8 w
  · exact sg_ix9 w
  · exact sg_ix10 w
  · exact sg_ix11 w
  · exact sg_ix12 w
  · exact sg_ix13 w
  · exact sg_ix14 w
  · exact sg_ix15 w
  · exact sg_ix16 w
  · exact sg_ix17 w

/-- The keyword that a word is; else a name. -/
def kwF (raw : ByteArray) (n : Nat) : ByteArray := (kws.take n).foldl (fun a k => if k.toList == raw.toList then k else a) kName
theorem kwF_succ (raw : ByteArray) (j : Nat) (h : j < 7) : kwF raw (j + 1) = if (kws[j]'h).toList == raw.toList then kws[j]'h else kwF raw j := by
  unfold kwF
  rw [List.take_succ_eq_append_getElem (by exact h)]
  simp
/-- The sign at a place, and where it ends. -/
def sgStep (s : ByteArray) (p : Nat) (a : ByteArray × Nat) (k : ByteArray) : ByteArray × Nat := if beginsB s p k && decide (a.2 = p) then (k, p + k.size) else a
def sgF (s : ByteArray) (p : Nat) (n : Nat) : ByteArray × Nat := (sgs.take n).foldl (sgStep s p) (kNone, p)
theorem sgF_succ (s : ByteArray) (p j : Nat) (h : j < 18) : sgF s p (j + 1) = sgStep s p (sgF s p j) (sgs[j]'h) := by
  unfold sgF
  rw [List.take_succ_eq_append_getElem (by exact h)]
  simp

end Go.Proofs.YtdaneedflpfeaaaGreatDoor

namespace Go.Proofs.YtdaneedflpfeaaaGreatDoor
set_option maxRecDepth 100000
open Go.RowKit

theorem ba_ext {a b : ByteArray} (h : a.toList = b.toList) : a = b := by
  rw [Go.ByteArray.toList_eq, Go.ByteArray.toList_eq] at h
  exact ByteArray.ext (Array.toList_inj.mp h)

def kindD (t : ByteArray) : ByteArray :=
  if t.data.toList.isEmpty then kNone else if isTy t.data.toList then kType else if isKw t.data.toList then t else if letterB (bt t 0) then kName else if digitB (bt t 0) then kNumber else t
theorem kindB_D (t : ByteArray) : kindB t = kindD t := by unfold kindB kindD; rw [Go.ByteArray.toList_eq]
def whatD (raw : ByteArray) : ByteArray := if isTy raw.data.toList then raw else kindD raw
theorem whatB_D (t : ByteArray) : whatB t = whatD t := by unfold whatB whatD; rw [Go.ByteArray.toList_eq, kindB_D]

theorem isTy_iff (t : ByteArray) : isTy t.toList = true ↔ t = ⟨#[105, 110, 116]⟩ ∨ t = ⟨#[99, 104, 97, 114]⟩ ∨ t = ⟨#[118, 111, 105, 100]⟩ := by
  have e1 : (⟨#[105, 110, 116]⟩ : ByteArray).toList = [105, 110, 116] := by rw [Go.ByteArray.toList_eq]
  have e2 : (⟨#[99, 104, 97, 114]⟩ : ByteArray).toList = [99, 104, 97, 114] := by rw [Go.ByteArray.toList_eq]
  have e3 : (⟨#[118, 111, 105, 100]⟩ : ByteArray).toList = [118, 111, 105, 100] := by rw [Go.ByteArray.toList_eq]
  constructor
  · intro h
    simp only [isTy, Bool.or_eq_true, beq_iff_eq] at h
    rcases h with (h | h) | h
    · exact .inl (ba_ext (h.trans e1.symm))
    · exact .inr (.inl (ba_ext (h.trans e2.symm)))
    · exact .inr (.inr (ba_ext (h.trans e3.symm)))
  · rintro (rfl | rfl | rfl)
    · rw [e1]; rfl
    · rw [e2]; rfl
    · rw [e3]; rfl
theorem isKw_iff (t : ByteArray) : isKw t.toList = true ↔ t = ⟨#[105, 102]⟩ ∨ t = ⟨#[101, 108, 115, 101]⟩ ∨ t = ⟨#[119, 104, 105, 108, 101]⟩ ∨ t = ⟨#[114, 101, 116, 117, 114, 110]⟩ := by
  have e1 : (⟨#[105, 102]⟩ : ByteArray).toList = [105, 102] := by rw [Go.ByteArray.toList_eq]
  have e2 : (⟨#[101, 108, 115, 101]⟩ : ByteArray).toList = [101, 108, 115, 101] := by rw [Go.ByteArray.toList_eq]
  have e3 : (⟨#[119, 104, 105, 108, 101]⟩ : ByteArray).toList = [119, 104, 105, 108, 101] := by rw [Go.ByteArray.toList_eq]
  have e4 : (⟨#[114, 101, 116, 117, 114, 110]⟩ : ByteArray).toList = [114, 101, 116, 117, 114, 110] := by rw [Go.ByteArray.toList_eq]
  constructor
  · intro h
    simp only [isKw, Bool.or_eq_true, beq_iff_eq] at h
    rcases h with ((h | h) | h) | h
    · exact .inl (ba_ext (h.trans e1.symm))
    · exact .inr (.inl (ba_ext (h.trans e2.symm)))
    · exact .inr (.inr (.inl (ba_ext (h.trans e3.symm))))
    · exact .inr (.inr (.inr (ba_ext (h.trans e4.symm))))
  · rintro (rfl | rfl | rfl | rfl)
    · rw [e1]; rfl
    · rw [e2]; rfl
    · rw [e3]; rfl
    · rw [e4]; rfl

def kwD (raw : ByteArray) : ByteArray := kws.foldl (fun a k => if k.data.toList == raw.data.toList then k else a) kName
theorem kwF_D (raw : ByteArray) : kwF raw 7 = kwD raw := by
  unfold kwF kwD
  rw [show kws.take 7 = kws from rfl]
  congr 1
  funext a k
  rw [Go.ByteArray.toList_eq, Go.ByteArray.toList_eq]
theorem kwD_none (raw : ByteArray) (h : ∀ k ∈ kws, raw ≠ k) : ∀ l : List ByteArray, (∀ k ∈ l, k ∈ kws) → l.foldl (fun a k => if k.data.toList == raw.data.toList then k else a) kName = kName := by
  intro l
  induction l with
  | nil => intro _; rfl
  | cons k l ih =>
    intro hl
    have hk : (k.data.toList == raw.data.toList) = false := by
      rw [beq_eq_false_iff_ne]
      intro e
      exact h k (hl k (by simp)) (ByteArray.ext (Array.toList_inj.mp e.symm))
    rw [List.foldl_cons, hk]
    exact ih fun k hk => hl k (by simp [hk])
/-- A word's name: a keyword, itself; else a name. -/
theorem kw_what (raw : ByteArray) (h0 : raw.size ≠ 0) (hl : letterB (bt raw 0) = true) : kwF raw 7 = whatB raw := by
  by_cases hk : raw ∈ kws
  · rw [kwF_D, whatB_D]
    have hall : ∀ k ∈ kws, kwD k = whatD k := by decide
    exact hall raw hk
  · rw [kwF_D]
    have hn : kwD raw = kName := kwD_none raw (fun k hk' e => hk (e ▸ hk')) kws (fun _ h => h)
    have h1 : isTy raw.toList = false := by
      rw [Bool.eq_false_iff]
      intro e
      rcases (isTy_iff raw).mp e with rfl | rfl | rfl <;> exact hk (by simp [kws])
    have h2 : isKw raw.toList = false := by
      rw [Bool.eq_false_iff]
      intro e
      rcases (isKw_iff raw).mp e with rfl | rfl | rfl | rfl <;> exact hk (by simp [kws])
    have h3 : raw.toList.isEmpty = false := by
      rw [Go.ByteArray.toList_eq, Bool.eq_false_iff]
      intro e
      rw [List.isEmpty_iff] at e
      exact h0 (by show raw.data.size = 0; rw [← Array.length_toList, e]; rfl)
    rw [hn, whatB, kindB, h1, h2, h3, hl]; rfl
theorem num_what (raw : ByteArray) (h0 : raw.size ≠ 0) (hd : digitB (bt raw 0) = true) : whatB raw = kNumber := by
  have hl : letterB (bt raw 0) = false := by
    simp [digitB] at hd
    simp [letterB]; omega
  have h1 : isTy raw.toList = false := by
    rw [Bool.eq_false_iff]
    intro e
    rcases (isTy_iff raw).mp e with rfl | rfl | rfl <;> exact absurd hd (by decide)
  have h2 : isKw raw.toList = false := by
    rw [Bool.eq_false_iff]
    intro e
    rcases (isKw_iff raw).mp e with rfl | rfl | rfl | rfl <;> exact absurd hd (by decide)
  have h3 : raw.toList.isEmpty = false := by
    rw [Go.ByteArray.toList_eq, Bool.eq_false_iff]
    intro e
    rw [List.isEmpty_iff] at e
    exact h0 (by show raw.data.size = 0; rw [← Array.length_toList, e]; rfl)
  rw [whatB, kindB, h1, h2, h3, hl, hd]; rfl

theorem bt_ext (s : ByteArray) (p e : Nat) (h : p < e) (he : e ≤ s.size) : (s.extract p e).size = e - p ∧ bt (s.extract p e) 0 = bt s p := by
  have hz : (s.extract p e).size = e - p := by simp; omega
  refine ⟨hz, ?_⟩
  rw [bt_in (by omega), bt_in (by omega)]
  congr 1
  congr 1
  rw [ByteArray.getElem_extract]
  congr 1

theorem sgStep_stay (s : ByteArray) (p : Nat) (a : ByteArray × Nat) (ha : a.2 ≠ p) : ∀ l : List ByteArray, l.foldl (sgStep s p) a = a := by
  intro l
  induction l with
  | nil => rfl
  | cons k l ih => rw [List.foldl_cons, show sgStep s p a k = a from by simp [sgStep, ha], ih]
theorem sgF_find (s : ByteArray) (p : Nat) : ∀ l : List ByteArray, (∀ k ∈ l, k.size ≠ 0) →
    l.foldl (sgStep s p) (kNone, p) = match l.find? (beginsB s p) with | some k => (k, p + k.size) | none => (kNone, p) := by
  intro l
  induction l with
  | nil => intro _; rfl
  | cons k l ih =>
    intro hl
    rw [List.foldl_cons, List.find?_cons]
    cases hb : beginsB s p k with
    | true =>
      have hs : sgStep s p (kNone, p) k = (k, p + k.size) := by simp [sgStep, hb]
      rw [hs, sgStep_stay s p _ (by have := hl k (by simp); show p + k.size ≠ p; omega)]
    | false =>
      have hs : sgStep s p (kNone, p) k = (kNone, p) := by simp [sgStep, hb]
      rw [hs]
      exact ih fun k hk => hl k (by simp [hk])
theorem begins_two (s : ByteArray) (p : Nat) (a b : UInt8) : beginsB s p ⟨#[a, b]⟩ = (decide (p + 2 ≤ s.size) && (s.extract p (p + 2)).toList == [a, b]) := by
  have hl : (⟨#[a, b]⟩ : ByteArray).toList = [a, b] := by rw [Go.ByteArray.toList_eq]
  unfold beginsB
  rw [hl]; rfl
theorem ext1 (s : ByteArray) (k : Nat) (h : k + 1 ≤ s.size) : (s.extract k (k + 1)).toList = [s[k]] := by
  rw [Lib.extract_toList, show k + 1 - k = 1 from by omega, List.drop_eq_getElem_cons (by show k < s.size; omega)]
  rfl
theorem begins_one (s : ByteArray) (p : Nat) (a : UInt8) (h : p < s.size) : beginsB s p ⟨#[a]⟩ = (s[p] == a) := by
  have hl : (⟨#[a]⟩ : ByteArray).toList = [a] := by rw [Go.ByteArray.toList_eq]
  unfold beginsB
  rw [hl, show (⟨#[a]⟩ : ByteArray).size = 1 from rfl, ext1 s p h]
  simp [show p + 1 ≤ s.size from h]
theorem sgs_size : ∀ k ∈ sgs, k.size ≠ 0 := by decide
theorem sgs_what : ∀ k ∈ sgs, whatB k = k := by
  intro k hk
  rw [whatB_D]
  have hall : ∀ k ∈ sgs, whatD k = k := by decide
  exact hall k hk
def sgL : List ByteArray := [⟨#[61, 61]⟩, ⟨#[33, 61]⟩, ⟨#[38, 38]⟩, ⟨#[124, 124]⟩]
def sgS : List ByteArray := [⟨#[40]⟩, ⟨#[41]⟩, ⟨#[123]⟩, ⟨#[125]⟩, ⟨#[44]⟩, ⟨#[59]⟩, ⟨#[61]⟩, ⟨#[60]⟩, ⟨#[62]⟩, ⟨#[43]⟩, ⟨#[45]⟩, ⟨#[42]⟩, ⟨#[47]⟩, ⟨#[33]⟩]
theorem find_long (s : ByteArray) (p : Nat) : sgL.find? (beginsB s p) = if longB s p then some (s.extract p (p + 2)) else none := by
  unfold sgL longB isLong
  simp only [List.find?_cons, begins_two, List.find?_nil]
  by_cases h : p + 2 ≤ s.size
  · simp only [h, decide_true, Bool.true_and]
    by_cases h1 : (s.extract p (p + 2)).toList = [61, 61]
    · have e : s.extract p (p + 2) = ⟨#[61, 61]⟩ := ba_ext (h1.trans (by rw [Go.ByteArray.toList_eq]))
      rw [e, Go.ByteArray.toList_eq]; rfl
    by_cases h2 : (s.extract p (p + 2)).toList = [33, 61]
    · have e : s.extract p (p + 2) = ⟨#[33, 61]⟩ := ba_ext (h2.trans (by rw [Go.ByteArray.toList_eq]))
      rw [e, Go.ByteArray.toList_eq]; rfl
    by_cases h3 : (s.extract p (p + 2)).toList = [38, 38]
    · have e : s.extract p (p + 2) = ⟨#[38, 38]⟩ := ba_ext (h3.trans (by rw [Go.ByteArray.toList_eq]))
      rw [e, Go.ByteArray.toList_eq]; rfl
    by_cases h4 : (s.extract p (p + 2)).toList = [124, 124]
    · have e : s.extract p (p + 2) = ⟨#[124, 124]⟩ := ba_ext (h4.trans (by rw [Go.ByteArray.toList_eq]))
      rw [e, Go.ByteArray.toList_eq]; rfl
    have b1 : ((s.extract p (p + 2)).toList == [61, 61]) = false := by rw [beq_eq_false_iff_ne]; exact h1
    have b2 : ((s.extract p (p + 2)).toList == [33, 61]) = false := by rw [beq_eq_false_iff_ne]; exact h2
    have b3 : ((s.extract p (p + 2)).toList == [38, 38]) = false := by rw [beq_eq_false_iff_ne]; exact h3
    have b4 : ((s.extract p (p + 2)).toList == [124, 124]) = false := by rw [beq_eq_false_iff_ne]; exact h4
    rw [b1, b2, b3, b4]; rfl
  · simp [h]
set_option maxRecDepth 100000 in
theorem short_ix (c : UInt8) : shortB (c.toNat : Int) = [40, 41, 123, 125, 44, 59, 61, 60, 62, 43, 45, 42, 47, 33].contains c := by
  have : ∀ n : Fin 256, shortB (((UInt8.ofNat n.val).toNat : Nat) : Int) = [40, 41, 123, 125, 44, 59, 61, 60, 62, 43, 45, 42, 47, 33].contains (UInt8.ofNat n.val) := by decide
  have h := this ⟨c.toNat, c.toNat_lt⟩
  rwa [show UInt8.ofNat c.toNat = c from UInt8.ofNat_toNat] at h
theorem find_map (c : UInt8) (f : ByteArray → Bool) (hf : ∀ a : UInt8, f ⟨#[a]⟩ = (c == a)) : ∀ l : List UInt8, (l.map fun a => (⟨#[a]⟩ : ByteArray)).find? f = if l.contains c then some ⟨#[c]⟩ else none := by
  intro l
  induction l with
  | nil => rfl
  | cons a l ih =>
    rw [List.map_cons, List.find?_cons, hf a]
    by_cases h : c = a
    · subst h; simp
    · have : (c == a) = false := by rw [beq_eq_false_iff_ne]; exact h
      rw [this, ih, List.contains_cons, this]; rfl
theorem find_short (s : ByteArray) (p : Nat) (h : p < s.size) : sgS.find? (beginsB s p) = if shortB (bt s p) then some (s.extract p (p + 1)) else none := by
  have e1 : s.extract p (p + 1) = ⟨#[s[p]]⟩ := ba_ext (by rw [ext1 s p h, Go.ByteArray.toList_eq])
  rw [bt_in h, short_ix, e1]
  exact find_map s[p] (beginsB s p) (fun a => begins_one s p a h) [40, 41, 123, 125, 44, 59, 61, 60, 62, 43, 45, 42, 47, 33]
/-- The sign that stands at a place. -/
theorem sgF_eq (s : ByteArray) (p : Nat) (h : p < s.size) (hc : pairB s p 47 42 = false) (hl : letterB (bt s p) = false) (hd : digitB (bt s p) = false) :
    (p < tokenE s p ∧ sgF s p 18 = (whatB (s.extract p (tokenE s p)), tokenE s p) ∧ whatB (s.extract p (tokenE s p)) ≠ kNone ∧ whatB (s.extract p (tokenE s p)) ≠ kEnd) ∨ (¬ p < tokenE s p ∧ sgF s p 18 = (kNone, p)) := by
  have ht : tokenE s p = if longB s p then p + 2 else if shortB (bt s p) then p + 1 else p := by
    unfold tokenE signE
    rw [if_neg (by omega), hl, hd, hc]; rfl
  have hf : sgF s p 18 = match sgs.find? (beginsB s p) with | some k => (k, p + k.size) | none => (kNone, p) := by
    unfold sgF
    rw [show sgs.take 18 = sgs from rfl]
    exact sgF_find s p sgs sgs_size
  have hsp : sgs.find? (beginsB s p) = (sgL.find? (beginsB s p)).or (sgS.find? (beginsB s p)) := by
    rw [show sgs = sgL ++ sgS from rfl, List.find?_append]
  have hm : ∀ k, sgs.find? (beginsB s p) = some k → whatB k = k ∧ k ≠ kNone ∧ k ≠ kEnd := fun k hk => by
    have hin := List.mem_of_find?_eq_some hk
    refine ⟨sgs_what k hin, ?_⟩
    have hall : ∀ k ∈ sgs, k ≠ kNone ∧ k ≠ kEnd := by decide
    exact hall k hin
  rw [find_long, find_short s p h] at hsp
  cases hlo : longB s p with
  | true =>
    rw [hlo] at ht hsp
    have ht : tokenE s p = p + 2 := ht
    have hsp : sgs.find? (beginsB s p) = some (s.extract p (p + 2)) := hsp
    have hz : p + 2 ≤ s.size := by
      have := hlo
      simp only [longB, Bool.and_eq_true, decide_eq_true_eq] at this
      exact this.1
    left
    obtain ⟨m1, m2, m3⟩ := hm _ hsp
    rw [hsp] at hf
    rw [ht, m1]
    refine ⟨by omega, ?_, m2, m3⟩
    rw [hf]
    show (s.extract p (p + 2), p + (s.extract p (p + 2)).size) = _
    rw [(bt_ext s p (p + 2) (by omega) hz).1]
    congr 1; omega
  | false =>
    rw [hlo] at ht hsp
    cases hsh : shortB (bt s p) with
    | true =>
      rw [hsh] at ht hsp
      have ht : tokenE s p = p + 1 := ht
      have hsp : sgs.find? (beginsB s p) = some (s.extract p (p + 1)) := hsp
      left
      obtain ⟨m1, m2, m3⟩ := hm _ hsp
      rw [hsp] at hf
      rw [ht, m1]
      refine ⟨by omega, ?_, m2, m3⟩
      rw [hf]
      show (s.extract p (p + 1), p + (s.extract p (p + 1)).size) = _
      rw [(bt_ext s p (p + 1) (by omega) h).1]
      congr 1; omega
    | false =>
      rw [hsh] at ht hsp
      have ht : tokenE s p = p := ht
      have hsp : sgs.find? (beginsB s p) = none := hsp
      right
      rw [hsp] at hf
      exact ⟨by omega, hf⟩
theorem kw_what_ne (raw : ByteArray) (h0 : raw.size ≠ 0) (hl : letterB (bt raw 0) = true) : whatB raw ≠ kEnd ∧ whatB raw ≠ kNone := by
  rw [← kw_what raw h0 hl]
  by_cases hk : raw ∈ kws
  · rw [kwF_D]
    have hall : ∀ k ∈ kws, kwD k ≠ kEnd ∧ kwD k ≠ kNone := by decide
    exact hall raw hk
  · rw [kwF_D]
    have hn : kwD raw = kName := kwD_none raw (fun k hk' e => hk (e ▸ hk')) kws (fun _ h => h)
    rw [hn]; decide

end Go.Proofs.YtdaneedflpfeaaaGreatDoor
