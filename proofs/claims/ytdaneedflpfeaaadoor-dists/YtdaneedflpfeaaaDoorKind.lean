import Derived.Test.YtdaneedflpfeaaaDoorScan2
import Derived.Deep.AppendLies
namespace Go.Proofs.YtdaneedflpfeaaaDoor
set_option maxRecDepth 100000
open Go.RowKit

def kNone : ByteArray := ⟨#[110, 111, 110, 101]⟩
def kType : ByteArray := ⟨#[116, 121, 112, 101]⟩
def kName : ByteArray := ⟨#[110, 97, 109, 101]⟩
def kNumber : ByteArray := ⟨#[110, 117, 109, 98, 101, 114]⟩
def kEnd : ByteArray := ⟨#[101, 110, 100]⟩
def isTy (l : List UInt8) : Bool := l == [105, 110, 116] || l == [99, 104, 97, 114] || l == [118, 111, 105, 100]
def isKw (l : List UInt8) : Bool := l == [105, 102] || l == [101, 108, 115, 101] || l == [119, 104, 105, 108, 101] || l == [114, 101, 116, 117, 114, 110]
/-- The kind of a token's text. -/
def kindB (t : ByteArray) : ByteArray :=
  if t.toList.isEmpty then kNone else if isTy t.toList then kType else if isKw t.toList then t else if letterB (bt t 0) then kName else if digitB (bt t 0) then kNumber else t

theorem ret_str {a b : ByteArray} (h : a = b) : Ending.returned (.string a) = .returned (.string b) := by rw [h]

set_option maxHeartbeats 1600000 in
theorem kindOf_any (t : ByteArray) (w : World) :
    Calls Tryd.prog 41 #[.string t] w fun e w' => e = .returned (.string (kindB t)) ∧ w' = w := by
  cases h0 : t.toList.isEmpty with
  | true =>
    have HF : Hid (kindB t = kNone) := by show kindB t = _; simp [kindB, h0]
    go_enter Tryd.func41, Tryd.ntmps41
    go_wp2_with fail
    go_ret
    exact ⟨ret_str (unhide HF).symm, rfl⟩
  | false =>
  cases h1 : (t.toList == [105, 110, 116]) with
  | true =>
    have HF : Hid (kindB t = kType) := by show kindB t = _; (unfold kindB isTy isKw; rw [h0, h1]; try rfl)
    go_enter Tryd.func41, Tryd.ntmps41
    go_wp2_with fail
    go_ret
    exact ⟨ret_str (unhide HF).symm, rfl⟩
  | false =>
  cases h2 : (t.toList == [99, 104, 97, 114]) with
  | true =>
    have HF : Hid (kindB t = kType) := by show kindB t = _; (unfold kindB isTy isKw; rw [h0, h1, h2]; try rfl)
    go_enter Tryd.func41, Tryd.ntmps41
    go_wp2_with fail
    go_ret
    exact ⟨ret_str (unhide HF).symm, rfl⟩
  | false =>
  cases h3 : (t.toList == [118, 111, 105, 100]) with
  | true =>
    have HF : Hid (kindB t = kType) := by show kindB t = _; (unfold kindB isTy isKw; rw [h0, h1, h2, h3]; try rfl)
    go_enter Tryd.func41, Tryd.ntmps41
    go_wp2_with fail
    go_ret
    exact ⟨ret_str (unhide HF).symm, rfl⟩
  | false =>
  cases h4 : (t.toList == [105, 102]) with
  | true =>
    have HF : Hid (kindB t = t) := by show kindB t = _; (unfold kindB isTy isKw; rw [h0, h1, h2, h3, h4]; try rfl)
    go_enter Tryd.func41, Tryd.ntmps41
    go_wp2_with fail
    go_ret
    exact ⟨ret_str (unhide HF).symm, rfl⟩
  | false =>
  cases h5 : (t.toList == [101, 108, 115, 101]) with
  | true =>
    have HF : Hid (kindB t = t) := by show kindB t = _; (unfold kindB isTy isKw; rw [h0, h1, h2, h3, h4, h5]; try rfl)
    go_enter Tryd.func41, Tryd.ntmps41
    go_wp2_with fail
    go_ret
    exact ⟨ret_str (unhide HF).symm, rfl⟩
  | false =>
  cases h6 : (t.toList == [119, 104, 105, 108, 101]) with
  | true =>
    have HF : Hid (kindB t = t) := by show kindB t = _; (unfold kindB isTy isKw; rw [h0, h1, h2, h3, h4, h5, h6]; try rfl)
    go_enter Tryd.func41, Tryd.ntmps41
    go_wp2_with fail
    go_ret
    exact ⟨ret_str (unhide HF).symm, rfl⟩
  | false =>
  cases h7 : (t.toList == [114, 101, 116, 117, 114, 110]) with
  | true =>
    have HF : Hid (kindB t = t) := by show kindB t = _; (unfold kindB isTy isKw; rw [h0, h1, h2, h3, h4, h5, h6, h7]; try rfl)
    go_enter Tryd.func41, Tryd.ntmps41
    go_wp2_with fail
    go_ret
    exact ⟨ret_str (unhide HF).symm, rfl⟩
  | false =>
  have hz : 0 < t.size := by
    have : t.toList ≠ [] := by intro h; rw [h] at h0; simp at h0
    have h2 : t.toList.length ≠ 0 := by intro h; exact this (List.eq_nil_of_length_eq_zero h)
    have h3 : t.toList.length = t.size := by rw [Go.ByteArray.toList_eq]; rfl
    omega
  have hb : ((t[0].toNat : Nat) : Int) ≤ 255 := by have := t[0].toNat_lt; omega
  have HF : Hid (kindB t = if letterB (t[0].toNat : Int) then kName else if digitB (t[0].toNat : Int) then kNumber else t) := by show kindB t = _; rw [← bt_in hz]; (unfold kindB isTy isKw; rw [h0, h1, h2, h3, h4, h5, h6, h7]; try rfl)
  have hz' : (0 : Int) < (t.size : Int) := by omega
  go_enter Tryd.func41, Tryd.ntmps41
  go_wp2_with (first
    | (go_at_call 54; refine (isLetter_any _ _ (by omega) (by omega)).mono ?_; rintro e w' ⟨rfl, rfl⟩)
    | (go_at_call 56; refine (isDigit_any _ _ (by omega) (by omega)).mono ?_; rintro e w' ⟨rfl, rfl⟩))
  all_goals go_ret
  · exact ⟨ret_str (by rw [unhide HF, ‹letterB _ = true›]; rfl), rfl⟩
  · exact ⟨ret_str (by rw [unhide HF, ‹letterB _ = false›, ‹digitB _ = true›]; rfl), rfl⟩
  · exact ⟨ret_str (by rw [unhide HF, ‹letterB _ = false›, ‹digitB _ = false›]; rfl), rfl⟩

end Go.Proofs.YtdaneedflpfeaaaDoor
