import Derived.Test.YtdaneedflpfeaaaGreatDoorKeepW
import Derived.Test.YtdaneedflpfeaaaGreatDoorKeepLn
import Derived.Test.YtdaneedflpfeaaaGreatDoorDifN
namespace Go.Proofs.YtdaneedflpfeaaaGreatDoor
set_option maxRecDepth 100000
open Go.RowKit

/-- Between a program and itself the script is empty. -/
theorem diff_self {L : List Nd} {d : ByteArray} (hd : DiffS L L d) : d = ⟨#[]⟩ := by
  obtain ⟨mf, mt, hp, rfl⟩ := hd
  have h1 := diff_len hp
  have h0 : dSn L L 1 L.length 1 L.length = 0 := (Dist.dl_zero _ _).2 rfl
  rw [h0] at h1
  rw [List.eq_nil_of_length_eq_zero h1]
  rfl
theorem isOk_out {s : ByteArray} (h : isOk (outT s) = true) : ∃ L, outT s = .ok L := by
  cases ho : outT s with
  | err c p => rw [ho] at h; cases h
  | ok L => exact ⟨L, rfl⟩
theorem both_not {a b : ByteArray} (h : isOk (outT a) = false ∨ isOk (outT b) = false) : bothC a b ≠ 0 := by
  intro h0
  obtain ⟨L, M, ha, hb⟩ := both_ok h0
  rw [ha, hb] at h
  rcases h with h | h <;> cases h

set_option maxHeartbeats 3200000 in
theorem patched_no (a b : ByteArray) (w : World) (hno : isOk (outT a) = false ∨ isOk (outT b) = false) : Calls Tryz.prog 6 #[.string a, .string b] w fun e w' => e = .returned (.bool true) ∧ Below w.heap.size w w' := by
  have HAL := hide (alive_any w)
  have HP : Hid (∀ s w1, Calls Tryz.prog 17 #[.string s] w1 fun e w' => e = .returned (.bool (isOk (outT s))) ∧ Below w1.heap.size w1 w') := fun s w1 => program_any s w1
  have hb := both_not hno
  have HD : Hid (∀ w1, Calls Tryz.prog 16 #[.string a, .string b] w1 fun e w' => e = .returned (.tuple #[.int .i64 0, .int .i64 (bothC a b)]) ∧ Below w1.heap.size w1 w') := fun w1 => by
    have := dist_any a b w1
    rw [both_dist hb] at this
    exact this
  have HF : Hid (∀ w1, Calls Tryz.prog 7 #[.string a, .string b] w1 fun e w' => e = .returned (.tuple #[.string ⟨#[]⟩, .int .i64 (bothC a b)]) ∧ Below w1.heap.size w1 w') := fun w1 => diff_err a b w1 hb
  have hc : (bothC a b != 0) = true := bne_iff_ne.2 hb
  have hc2 : (bothC a b == bothC a b) = true := beq_self_eq_true _
  have HNO := hide hno
  clear hb hno
  generalize bothC a b = c at *
  go_enter Tryz.func6, Tryz.ntmps6
  go_wp2_with fail
  refine (unhide HAL).mono ?_
  rintro e w1 ⟨rfl, hB1⟩
  have HB1 := hide hB1
  clear hB1 HAL
  go_wp2_with fail
  refine (unhide HF _).mono ?_
  rintro e w2 ⟨rfl, hB2⟩
  have HB2 := hide ((unhide HB1).trans (hB2.mono (unhide HB1).size))
  clear hB2 HB1
  go_wp2_with fail
  refine (unhide HD _).mono ?_
  rintro e w3 ⟨rfl, hB3⟩
  have HB3 := hide ((unhide HB2).trans (hB3.mono (unhide HB2).size))
  clear hB3 HB2
  go_wp2_with fail
  refine (unhide HP a _).mono ?_
  rintro e w4 ⟨rfl, hB4⟩
  have HB4 := hide ((unhide HB3).trans (hB4.mono (unhide HB3).size))
  clear hB4 HB3
  cases ha : isOk (outT a) with
  | false =>
    clear ha
    go_wp2_with fail
    go_ret
    exact ⟨ret_bool (by simp), unhide HB4⟩
  | true =>
    have hbf : isOk (outT b) = false := by
      have := unhide HNO
      rw [ha] at this
      exact this.resolve_left (by simp)
    clear ha
    go_wp2_with fail
    refine (unhide HP b _).mono ?_
    rw [hbf]
    rintro e w5 ⟨rfl, hB5⟩
    have HB5 := hide ((unhide HB4).trans (hB5.mono (unhide HB4).size))
    clear hB5 HB4
    go_wp2_with fail
    go_ret
    exact ⟨ret_bool (by simp), unhide HB5⟩

set_option maxHeartbeats 3200000 in
theorem patched_yes (a b : ByteArray) (L M : List Nd) (w : World) (ha : outT a = .ok L) (hb : outT b = .ok M) : Calls Tryz.prog 6 #[.string a, .string b] w fun e w' => e = .returned (.bool true) ∧ Below w.heap.size w w' := by
  have HAL := hide (alive_any w)
  have HP : Hid (∀ w1, Calls Tryz.prog 17 #[.string a] w1 fun e w' => e = .returned (.bool true) ∧ Below w1.heap.size w1 w') := fun w1 => by
    have := program_any a w1; rw [ha] at this; exact this
  have HQ : Hid (∀ w1, Calls Tryz.prog 17 #[.string b] w1 fun e w' => e = .returned (.bool true) ∧ Below w1.heap.size w1 w') := fun w1 => by
    have := program_any b w1; rw [hb] at this; exact this
  have HD : Hid (∀ w1, Calls Tryz.prog 16 #[.string a, .string b] w1 fun e w' => e = .returned (.tuple #[.int .i64 (dB L M 0 0), .int .i64 0]) ∧ Below w1.heap.size w1 w') := fun w1 => by
    have := dist_any a b w1
    unfold distT at this
    rw [ha, hb] at this
    exact this
  have HF : Hid (∀ w1, Calls Tryz.prog 7 #[.string a, .string b] w1 fun e w' => Below w1.heap.size w1 w' ∧ ∃ d, e = .returned (.tuple #[.string d, .int .i64 0]) ∧ DiffS L M d) := fun w1 => diff_ok a b L M w1 ha hb
  have HG : Hid (∀ w1, Calls Tryz.prog 7 #[.string a, .string a] w1 fun e w' => Below w1.heap.size w1 w' ∧ ∃ d, e = .returned (.tuple #[.string d, .int .i64 0]) ∧ DiffS L L d) := fun w1 => diff_ok a a L L w1 ha ha
  have HPA : Hid (∀ d' w1, Calls Tryz.prog 12 #[.string a, .string d'] w1 fun e w' => Below w1.heap.size w1 w' ∧ ∃ s c p, e = .returned (.tuple #[.string s, .int .i64 c, .int .i64 p]) ∧ PatchOut a d' s c p) := fun d' w1 => patch_any a d' w1
  have HA := hide ha
  have HB := hide hb
  clear ha hb
  go_enter Tryz.func6, Tryz.ntmps6
  go_wp2_with fail
  refine (unhide HAL).mono ?_
  rintro e w1 ⟨rfl, hB1⟩
  have HB1 := hide hB1
  clear hB1 HAL
  go_wp2_with fail
  refine (unhide HF _).mono ?_
  rintro e w2 ⟨hB2, d, rfl, hds⟩
  have HDF := hide (diff_facts (unhide HA) (unhide HB) hds)
  have HDP := hide (fun s c p ho => diff_patch (s := s) (c := c) (p := p) (unhide HA) (unhide HB) hds ho)
  have hdz : d.size ≤ 9000 := (unhide HDF).1
  have HL : Hid (∀ w1, Calls Tryz.prog 18 #[.string d] w1 fun e w' => Below w1.heap.size w1 w' ∧ ∃ p c, e = .returned (.slice p (cntL d.data.toList) c)) := fun w1 => keepLines_any d w1 (by omega)
  have HCNT : Hid (dB L M 0 0 = ((cntL d.data.toList : Nat) : Int)) := (unhide HDF).2.2.symm
  rw [unhide HCNT] at HD
  have hcd : cntL d.data.toList ≤ 9000 := by have := cnt_le d.data.toList; have e : d.data.toList.length = d.size := rfl; omega
  have HB2 := hide ((unhide HB1).trans (hB2.mono (unhide HB1).size))
  clear hB2 HB1 hds HDF HCNT HF
  generalize cntL d.data.toList = cn at *
  go_wp2_with fail
  refine (unhide HD _).mono ?_
  rintro e w3 ⟨rfl, hB3⟩
  have HB3 := hide ((unhide HB2).trans (hB3.mono (unhide HB2).size))
  clear hB3 HB2
  go_wp2_with fail
  refine (unhide HP _).mono ?_
  rintro e w4 ⟨rfl, hB4⟩
  have HB4 := hide ((unhide HB3).trans (hB4.mono (unhide HB3).size))
  clear hB4 HB3
  go_wp2_with fail
  refine (unhide HQ _).mono ?_
  rintro e w5 ⟨rfl, hB5⟩
  have HB5 := hide ((unhide HB4).trans (hB5.mono (unhide HB4).size))
  clear hB5 HB4
  go_wp2_with fail
  refine (unhide HPA _ _).mono ?_
  rintro e w6 ⟨hB6, s, c, p, rfl, ho⟩
  obtain ⟨rfl, rfl, rfl⟩ := unhide HDP _ _ _ ho
  have HB6 := hide ((unhide HB5).trans (hB6.mono (unhide HB5).size))
  clear hB6 HB5 ho
  go_wp2_with fail
  refine (unhide HG _).mono ?_
  rintro e w7 ⟨hB7, d2, rfl, hds2⟩
  obtain rfl := diff_self hds2
  have HB7 := hide ((unhide HB6).trans (hB7.mono (unhide HB6).size))
  clear hB7 HB6 hds2
  have hbb : (s.toList == s.toList) = true := beq_self_eq_true _
  go_wp2_with fail
  refine (unhide HL _).mono ?_
  rintro e w8 ⟨hB8, p, c, rfl⟩
  have HB8 := hide ((unhide HB7).trans (hB8.mono (unhide HB7).size))
  clear hB8 HB7
  go_wp2_with fail
  go_ret
  exact ⟨ret_bool (by simp), unhide HB8⟩

theorem patched_any (a b : ByteArray) (w : World) : Calls Tryz.prog 6 #[.string a, .string b] w fun e w' => e = .returned (.bool true) ∧ Below w.heap.size w w' := by
  cases ha : outT a with
  | err c p => exact patched_no a b w (.inl (by rw [ha]; rfl))
  | ok L => cases hb : outT b with
    | err c p => exact patched_no a b w (.inr (by rw [hb]; rfl))
    | ok M => exact patched_yes a b L M w ha hb

end Go.Proofs.YtdaneedflpfeaaaGreatDoor
