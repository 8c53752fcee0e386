import Derived.Test.YtdaneedflpfeaaaLeaves
import Derived.Test.YtdaneedflpfeaaaOutShow
namespace Go.Proofs.Ytdaneedflpfeaaa
set_option maxRecDepth 100000
open Go.RowKit

def isOk : ROut → Bool | .ok _ => true | .err _ _ => false
set_option maxHeartbeats 400000 in
theorem program_any (s : ByteArray) (w : World) :
    Calls Try.prog 9 #[.string s] w fun e w' => e = .returned (.bool (isOk (outT s))) ∧ Below w.heap.size w w' := by
  have HS := hide (fun wx => show_any s wx)
  cases ho : outT s with
  | err c p =>
    have HE : Hid (showT s = .returned (.tuple #[.string ⟨#[]⟩, .int .i64 c, .int .i64 p])) := by show showT s = _; simp [showT, ho]
    have hc : (c == 0) = false := by have := (outT_ne ho).1; simpa using this
    clear ho
    go_enter Try.func9, Try.ntmps9
    go_wp2_with fail
    refine (unhide HS _).mono ?_
    rintro e w1 ⟨he, hB⟩
    rw [unhide HE] at he
    subst he
    have HB := hide hB
    clear hB
    go_wp2_with fail
    go_ret
    exact ⟨rfl, unhide HB⟩
  | ok l =>
    have HE : Hid (showT s = .returned (.tuple #[.string (mk (writtenL l)), .int .i64 0, .int .i64 0])) := by show showT s = _; simp [showT, ho]
    clear ho
    go_enter Try.func9, Try.ntmps9
    go_wp2_with fail
    refine (unhide HS _).mono ?_
    rintro e w1 ⟨he, hB⟩
    rw [unhide HE] at he
    subst he
    have HB := hide hB
    clear hB
    go_wp2_with fail
    go_ret
    exact ⟨rfl, unhide HB⟩

def brkB (c : UInt8) : Int := if c = 40 then 1 else if c = 41 then -1 else 0
/-- How many brackets are open. -/
def brk (l : List UInt8) : Int := (l.map brkB).sum
theorem brk_append (l m : List UInt8) : brk (l ++ m) = brk l + brk m := by simp [brk]
theorem brk_bd (l : List UInt8) : -(l.length : Int) ≤ brk l ∧ brk l ≤ l.length := by
  induction l with
  | nil => simp [brk]
  | cons c l ih =>
    have : brk (c :: l) = brkB c + brk l := by simp [brk]
    have hb : -1 ≤ brkB c ∧ brkB c ≤ 1 := by unfold brkB; split; decide; split <;> decide
    simp only [List.length_cons]; omega

def voidS : ByteArray := ⟨#[118, 111, 105, 100, 32, 102, 40, 41, 123, 125]⟩

set_option maxHeartbeats 3200000 in
theorem lossless_ok (s t : ByteArray) (w : World) (hv : isOk (outT voidS) = true) (hs : ∀ wx, Calls Try.prog 10 #[.string s] wx fun e w' => e = .returned (.tuple #[.string t, .int .i64 0, .int .i64 0]) ∧ Below wx.heap.size wx w')
    (ht : t.size ≤ 1000000000) (h1 : 1 ≤ t.size) (hb : ∀ k, 0 < k → k < t.size → 0 < brk (t.data.toList.take k)) (hb0 : brk t.data.toList = 0) (hl : mk (outL t 1) = s) :
    Calls Try.prog 3 #[.string s] w fun e w' => e = .returned (.bool true) ∧ Below w.heap.size w w' := by
  have HS := hide hs
  have HB := hide hb
  have HB0 := hide hb0
  have HL := hide hl
  have HV := hide hv
  clear hs hb hb0 hl hv
  go_enter Try.func3, Try.ntmps3
  go_wp2_with fail
  refine (program_any voidS _).mono ?_
  rintro e w1 ⟨he, hB1⟩
  rw [unhide HV] at he
  subst he
  have HW1 := hide hB1
  clear hB1
  go_wp2_with fail
  refine (unhide HS _).mono ?_
  rintro e w2 ⟨rfl, hB2⟩
  have HW2 : Hid (Below w.heap.size w w2) := (unhide HW1).trans (hB2.mono (unhide HW1).size)
  clear hB2
  go_wp2_with fail
  go_loop [6, 7] (fun o i => ∃ k : Nat, k ≤ t.size ∧ i = .int .i64 k ∧ o = .int .i64 (brk (t.data.toList.take k))) (fun _ i => t.size - (intOf i).toNat)
  case atStart => exact ⟨0, Nat.zero_le _, rfl, rfl⟩
  case round =>
    obtain ⟨k, hk, rfl, rfl⟩ := hrel
    have hbd := brk_bd (t.data.toList.take k)
    have hbl : (t.data.toList.take k).length ≤ k := List.length_take_le _ _
    by_cases hlt : k < t.size
    · have HT : Hid (brk (t.data.toList.take (k + 1)) = brk (t.data.toList.take k) + brkB t[k]) := by
        show brk (t.data.toList.take (k + 1)) = _; rw [take_snocB t k hlt, brk_append]; simp [brk]
      have hpos : 0 < brk (t.data.toList.take k) + brkB t[k] ∨ (brk (t.data.toList.take k) + brkB t[k] = 0 ∧ k + 1 = t.size) := by
        rw [← unhide HT]
        by_cases he : k + 1 < t.size
        · exact .inl (unhide HB (k + 1) (by omega) he)
        · exact .inr ⟨by rw [List.take_of_length_le (by show t.size ≤ k + 1; omega)]; exact unhide HB0, by omega⟩
      generalize brk (t.data.toList.take k) = d at *
      have hbc : (brkB t[k] = 1 ∧ (t[k].toNat : Int) = 40) ∨ (brkB t[k] = -1 ∧ (t[k].toNat : Int) = 41) ∨ (brkB t[k] = 0 ∧ (t[k].toNat : Int) ≠ 40 ∧ (t[k].toNat : Int) ≠ 41) := by
        unfold brkB
        by_cases h40 : t[k] = 40
        · left; simp [h40]
        · by_cases h41 : t[k] = 41
          · right; left; simp [h41]
          · right; right
            refine ⟨by simp [h40, h41], ?_, ?_⟩
            · intro h; exact h40 (UInt8.toNat_inj.1 (show t[k].toNat = 40 by omega))
            · intro h; exact h41 (UInt8.toNat_inj.1 (show t[k].toNat = 41 by omega))
      generalize brkB t[k] = x at *
      rcases hbc with ⟨rfl, hc⟩ | ⟨rfl, hc⟩ | ⟨rfl, hc1, hc2⟩
      · have q1 : ((t[k].toNat : Int) == 40) = true := by simp [hc]
        clear hc
        rcases hpos with hp | ⟨hp, hke⟩
        · have g1 : ¬ (d + 1 < 0) := by omega
          have g2 : ((d + 1) == 0) = false := by simp; omega
          go_wp2_with fail
          go_round
          case rel => exact ⟨k + 1, by omega, by go_num, by rw [unhide HT]⟩
          case measure => simp [intOf]; omega
        · have g1 : ¬ (d + 1 < 0) := by omega
          have g2 : ((d + 1) == 0) = true := by simp; omega
          have g3 : ¬ ((k : Int) < (t.size : Int) - 1) := by omega
          have HHP := hide hp
          have HKE := hide hke
          clear hp hke
          go_wp2_with fail
          go_round
          case rel => exact ⟨k + 1, by omega, by go_num, by rw [unhide HT]⟩
          case measure => simp [intOf]; omega
      · have q1 : ((t[k].toNat : Int) == 40) = false := by simp [hc]
        have q2 : ((t[k].toNat : Int) == 41) = true := by simp [hc]
        clear hc
        rcases hpos with hp | ⟨hp, hke⟩
        · rw [show d + -1 = d - 1 from by omega] at HT hp
          have g1 : ¬ (d - 1 < 0) := by omega
          have g2 : ((d - 1) == 0) = false := by simp; omega
          go_wp2_with fail
          go_round
          case rel => exact ⟨k + 1, by omega, by go_num, by rw [unhide HT]⟩
          case measure => simp [intOf]; omega
        · rw [show d + -1 = d - 1 from by omega] at HT hp
          have g1 : ¬ (d - 1 < 0) := by omega
          have g2 : ((d - 1) == 0) = true := by simp; omega
          have g3 : ¬ ((k : Int) < (t.size : Int) - 1) := by omega
          have HHP := hide hp
          have HKE := hide hke
          clear hp hke
          go_wp2_with fail
          go_round
          case rel => exact ⟨k + 1, by omega, by go_num, by rw [unhide HT]⟩
          case measure => simp [intOf]; omega
      · have q1 : ((t[k].toNat : Int) == 40) = false := by simp [hc1]
        have q2 : ((t[k].toNat : Int) == 41) = false := by simp [hc2]
        clear hc1 hc2
        rcases hpos with hp | ⟨hp, hke⟩
        · rw [show d + 0 = d from by omega] at HT hp
          have g1 : ¬ (d < 0) := by omega
          have g2 : ((d) == 0) = false := by simp; omega
          go_wp2_with fail
          go_round
          case rel => exact ⟨k + 1, by omega, by go_num, by rw [unhide HT]⟩
          case measure => simp [intOf]; omega
        · rw [show d + 0 = d from by omega] at HT hp
          have g1 : ¬ (d < 0) := by omega
          have g2 : ((d) == 0) = true := by simp; omega
          have g3 : ¬ ((k : Int) < (t.size : Int) - 1) := by omega
          have HHP := hide hp
          have HKE := hide hke
          clear hp hke
          go_wp2_with fail
          go_round
          case rel => exact ⟨k + 1, by omega, by go_num, by rw [unhide HT]⟩
          case measure => simp [intOf]; omega
    · have hkt : k = t.size := by omega
      subst hkt
      have HT : Hid (brk (t.data.toList.take t.size) = 0) := by show brk (t.data.toList.take t.size) = 0; rw [List.take_of_length_le (by show t.size ≤ t.size; exact Nat.le_refl _)]; exact unhide HB0
      rw [unhide HT]
      clear hbd hbl
      have HLV := hide (fun wx => leaves_any t wx ht h1)
      rw [unhide HL] at HLV
      have hbq : (s.toList == s.toList) = true := by simp
      go_wp2_with fail
      refine (unhide HLV _).mono ?_
      rintro e w3 ⟨rfl, hB3⟩
      have HW3 : Hid (Below w.heap.size w w3) := (unhide HW2).trans (hB3.mono (unhide HW2).size)
      clear hB3
      go_wp2_with fail
      go_ret
      exact ⟨rfl, unhide HW3⟩

set_option maxHeartbeats 1600000 in
theorem lossless_err (s : ByteArray) (c p : Int) (w : World) (hv : isOk (outT voidS) = true) (ho : outT s = .err c p) :
    Calls Try.prog 3 #[.string s] w fun e w' => e = .returned (.bool true) ∧ Below w.heap.size w w' := by
  have HS : Hid (∀ wx, Calls Try.prog 10 #[.string s] wx fun e w' => e = .returned (.tuple #[.string ⟨#[]⟩, .int .i64 c, .int .i64 p]) ∧ Below wx.heap.size wx w') := by
    intro wx
    have := show_any s wx
    rw [show showT s = .returned (.tuple #[.string ⟨#[]⟩, .int .i64 c, .int .i64 p]) from by simp [showT, ho]] at this
    exact this
  have HV := hide hv
  have hcc := outT_err ho
  clear hv ho
  rcases hcc with ⟨rfl, rfl, h6⟩ | ⟨rfl, h0, h1, h6⟩ | ⟨hc, rfl, h6⟩
  · go_enter Try.func3, Try.ntmps3
    go_wp2_with fail
    refine (program_any voidS _).mono ?_
    rintro e w1 ⟨he, hB1⟩
    rw [unhide HV] at he
    subst he
    have HW1 := hide hB1
    clear hB1
    go_wp2_with fail
    refine (unhide HS _).mono ?_
    rintro e w2 ⟨rfl, hB2⟩
    have HW2 : Hid (Below w.heap.size w w2) := (unhide HW1).trans (hB2.mono (unhide HW1).size)
    clear hB2
    go_wp2_with fail
    go_ret
    exact ⟨ret_bool (by simp; try omega), unhide HW2⟩
  · go_enter Try.func3, Try.ntmps3
    go_wp2_with fail
    refine (program_any voidS _).mono ?_
    rintro e w1 ⟨he, hB1⟩
    rw [unhide HV] at he
    subst he
    have HW1 := hide hB1
    clear hB1
    go_wp2_with fail
    refine (unhide HS _).mono ?_
    rintro e w2 ⟨rfl, hB2⟩
    have HW2 : Hid (Below w.heap.size w w2) := (unhide HW1).trans (hB2.mono (unhide HW1).size)
    clear hB2
    go_wp2_with fail
    go_ret
    exact ⟨ret_bool (by simp; try omega), unhide HW2⟩
  · have hc0 : (c != 0) = true := by rw [bne_iff_ne]; omega
    have hc1 : (c == 1) = false := by rw [beq_eq_false_iff_ne]; omega
    have hc2 : (c == 2) = false := by rw [beq_eq_false_iff_ne]; omega
    clear hc
    go_enter Try.func3, Try.ntmps3
    go_wp2_with fail
    refine (program_any voidS _).mono ?_
    rintro e w1 ⟨he, hB1⟩
    rw [unhide HV] at he
    subst he
    have HW1 := hide hB1
    clear hB1
    go_wp2_with fail
    refine (unhide HS _).mono ?_
    rintro e w2 ⟨rfl, hB2⟩
    have HW2 : Hid (Below w.heap.size w w2) := (unhide HW1).trans (hB2.mono (unhide HW1).size)
    clear hB2
    go_wp2_with fail
    go_ret
    exact ⟨ret_bool (by simp; try omega), unhide HW2⟩

end Go.Proofs.Ytdaneedflpfeaaa
