import Derived.Test.YtdaneedflpfeaabGreatDoorStr
import Derived.Lib.Strings
namespace Go.Proofs.YtdaneedflpfeaabGreatDoor
set_option maxRecDepth 100000
open Go.RowKit

set_option maxHeartbeats 400000 in
theorem isPairW_any (s : ByteArray) (i : Int) (a b : Int) (w : World) (hs : s.size ≤ 1000000) (h0 : 0 ≤ i) (h1 : i ≤ s.size) (hb : 0 ≤ b) :
    Calls Tryz.prog 75 #[.string s, .int .i64 i, .int .u8 a, .int .u8 b] w fun e w' => e = .returned (.bool (pairB s i.toNat a b)) ∧ w' = w := by
  obtain ⟨k, rfl⟩ := Int.eq_ofNat_of_zero_le h0
  rw [Int.toNat_natCast]
  by_cases hlt : k + 1 < s.size
  · have hlt0 : k < s.size := by omega
    have e0 := bt_in hlt0
    have e1 := bt_in hlt
    have E0 := hide e0
    have E1 := hide e1
    clear e0 e1
    go_enter Tryz.func75, Tryz.ntmps75
    go_wp2
    · go_ret
      exact ⟨ret_bool (by unfold pairB; rw [unhide E0, unhide E1]; simp [*]), rfl⟩
    · go_ret
      exact ⟨ret_bool (by unfold pairB; rw [unhide E0, unhide E1]; simp [*]), rfl⟩
  · have e1 := bt_out (s := s) (i := k + 1) (by omega)
    have E1 := hide e1
    clear e1
    go_enter Tryz.func75, Tryz.ntmps75
    go_wp2
    go_ret
    exact ⟨ret_bool (by unfold pairB; rw [unhide E1]; simp; intro _; omega), rfl⟩

set_option maxHeartbeats 400000 in
theorem lineEndW_any (s : ByteArray) (i : Int) (w : World) (hs : s.size ≤ 1000000) (h0 : 0 ≤ i) (h1 : i ≤ s.size) :
    Calls Tryz.prog 28 #[.string s, .int .i64 i] w fun e w' => e = .returned (.int .i64 (runE noLf s i.toNat)) ∧ w' = w := by
  obtain ⟨k0, rfl⟩ := Int.eq_ofNat_of_zero_le h0
  rw [Int.toNat_natCast]
  go_enter Tryz.func28, Tryz.ntmps28
  go_wp2
  go_loop [5] (fun i => ∃ k : Nat, k ≤ s.size ∧ i = .int .i64 k ∧ runE noLf s k = runE noLf s k0) (fun i => s.size - (intOf i).toNat)
  case atStart => exact ⟨k0, by omega, rfl, rfl⟩
  case round =>
    obtain ⟨k, hk, rfl, hE⟩ := hrel
    have HE : Hid (runE noLf s k = runE noLf s k0) := hE
    clear hE
    by_cases hlt : k < s.size
    · have E0 := hide (bt_in hlt)
      go_wp2
      · have h := ‹((s[k].toNat : Int) != 10) = true›
        go_round
        case rel => exact ⟨k + 1, by omega, by go_num, by rw [← unhide HE, runE_yes hlt (by rw [unhide E0]; exact h)]⟩
        case measure => simp [intOf]; omega
      · have h := ‹((s[k].toNat : Int) != 10) = false›
        go_ret
        exact ⟨ret_int (by rw [← unhide HE, runE_no (fun _ => by rw [unhide E0]; exact h)]), rfl⟩
    · go_wp2
      go_ret
      exact ⟨ret_int (by rw [← unhide HE, runE_no (fun h => absurd h hlt)]), rfl⟩


/-! ## Bytes as labels write them, read back -/
def hexV (c : Int) : Int := if 48 ≤ c ∧ c ≤ 57 then c - 48 else if 97 ≤ c ∧ c ≤ 102 then c - 87 else -1
theorem hexV_bd (c : Int) : -1 ≤ hexV c ∧ hexV c ≤ 15 := by unfold hexV; split; omega; split <;> omega
theorem hexD_V : ∀ q : Fin 16, hexV ((hexD q.val).toNat : Int) = q.val := by decide
theorem hexV_D {c : UInt8} {k : Nat} (h : hexV (c.toNat : Int) = k) : hexD k = c := by
  have hb := c.toNat_lt
  unfold hexV at h
  apply UInt8.toNat_inj.1
  split at h
  · rw [hexD, if_pos (by omega), UInt8.toNat_ofNat']; omega
  · split at h
    · rw [hexD, if_neg (by omega), UInt8.toNat_ofNat']; omega
    · omega
theorem u8_ne {a b : UInt8} (h : a ≠ b) : ((a.toNat : Int) == (b.toNat : Int)) = false := by
  rw [beq_eq_false_iff_ne]; intro e; exact h (UInt8.toNat_inj.1 (by omega))

set_option maxHeartbeats 800000 in
theorem hexValue_any (c : UInt8) (w : World) :
    Calls Tryz.prog 98 #[.int .u8 (c.toNat : Int)] w fun e w' => e = .returned (.int .i64 (hexV (c.toNat : Int))) ∧ w' = w := by
  have hbd := hexV_bd (c.toNat : Int)
  go_enter Tryz.func98, Tryz.ntmps98
  go_wp2_with fail
  go_loop [3] (fun i => ∃ k : Nat, k ≤ 16 ∧ i = .int .i64 k ∧ (hexV (c.toNat : Int) = -1 ∨ (k : Int) ≤ hexV (c.toNat : Int))) (fun i => 16 - (intOf i).toNat)
  case atStart => exact ⟨0, by omega, rfl, by omega⟩
  case round =>
    obtain ⟨k, hk, rfl, hv⟩ := hrel
    by_cases hlt : k < 16
    · have hE := hex_at k (by show k < 16; omega)
      by_cases heq : hexD k = c
      · have HV : Hid (hexV (c.toNat : Int) = k) := by show _ = _; rw [← heq]; exact hexD_V ⟨k, hlt⟩
        have hq : (((hexS[k]'(by show k < 16; omega)).toNat : Int) == (c.toNat : Int)) = true := by rw [hE, heq]; simp
        clear hE hbd hv
        go_wp2_with fail
        go_ret
        exact ⟨ret_int (unhide HV).symm, rfl⟩
      · have hq : (((hexS[k]'(by show k < 16; omega)).toNat : Int) == (c.toNat : Int)) = false := by rw [hE]; exact u8_ne heq
        have HV : Hid (hexV (c.toNat : Int) ≠ k) := fun h => heq (hexV_D h)
        have HV2 := hide hv
        clear hE hbd hv
        go_wp2_with fail
        go_round
        case rel => exact ⟨k + 1, by omega, by go_num, by have := unhide HV; have := unhide HV2; omega⟩
        case measure => simp [intOf]; omega
    · have HV : Hid (hexV (c.toNat : Int) = -1) := by show _ = _; omega
      clear hv hbd
      go_wp2_with fail
      go_ret
      exact ⟨ret_int (unhide HV).symm, rfl⟩

end Go.Proofs.YtdaneedflpfeaabGreatDoor

namespace Go.Proofs.YtdaneedflpfeaabGreatDoor
set_option maxRecDepth 100000
open Go.RowKit

/-- The byte that stands first as labels write it, and how many bytes that takes: none, if it is written otherwise. -/
def unB : List UInt8 → UInt8 × Nat
  | [] => (0, 0)
  | a :: t => if plainB (a.toNat : Int) then (a, 1) else
    match t with
    | b :: h :: o :: _ => if (a = 92 ∧ b = 120) ∧ (0 ≤ hexV (h.toNat : Int) ∧ 0 ≤ hexV (o.toNat : Int)) ∧ plainB (hexV (h.toNat : Int) * 16 + hexV (o.toNat : Int)) = false then (UInt8.ofNat (hexV (h.toNat : Int) * 16 + hexV (o.toNat : Int)).toNat, 4) else (0, 0)
    | _ => (0, 0)
theorem unB_plain {a : UInt8} (t : List UInt8) (h : plainB (a.toNat : Int) = true) : unB (a :: t) = (a, 1) := by simp [unB, h]
theorem unB_short {l : List UInt8} (hl : l.length < 4) (h : ∀ a t, l = a :: t → plainB (a.toNat : Int) = false) : unB l = (0, 0) := by
  match l, hl with
  | [], _ => rfl
  | [a], _ => simp [unB, h a [] rfl]
  | [a, b], _ => simp [unB, h a [b] rfl]
  | [a, b, c], _ => simp [unB, h a [b, c] rfl]
theorem unB_full {a b h o : UInt8} (t : List UInt8) (hp : plainB (a.toNat : Int) = false) : unB (a :: b :: h :: o :: t) = if (a = 92 ∧ b = 120) ∧ (0 ≤ hexV (h.toNat : Int) ∧ 0 ≤ hexV (o.toNat : Int)) ∧ plainB (hexV (h.toNat : Int) * 16 + hexV (o.toNat : Int)) = false then (UInt8.ofNat (hexV (h.toNat : Int) * 16 + hexV (o.toNat : Int)).toNat, 4) else (0, 0) := by simp [unB, hp]
theorem unB_le (l : List UInt8) : (unB l).2 ≤ l.length := by
  match l with
  | [] => simp [unB]
  | a :: t =>
    simp only [unB]
    split
    · simp
    · split
      · split
        · simp
        · simp
      · simp
theorem drop_at {s : ByteArray} {i : Nat} (h : i < s.size) : s.data.toList.drop i = s[i] :: s.data.toList.drop (i + 1) := by
  rw [List.drop_eq_getElem_cons (by exact h)]; rfl
theorem ret_tup2 {a b c d : Value} (h1 : a = c) (h2 : b = d) : Ending.returned (.tuple #[a, b]) = .returned (.tuple #[c, d]) := by rw [h1, h2]
theorem pairB_at {s : ByteArray} {i : Nat} (h : i + 1 < s.size) : pairB s i 92 120 = true ↔ (s[i] = 92 ∧ s[i + 1] = 120) := by
  rw [pairB, bt_in (by omega), bt_in h, Bool.and_eq_true, beq_iff_eq, beq_iff_eq]
  constructor
  · rintro ⟨a, b⟩; exact ⟨UInt8.toNat_inj.1 (by show _ = 92; omega), UInt8.toNat_inj.1 (by show _ = 120; omega)⟩
  · rintro ⟨a, b⟩; rw [a, b]; decide

set_option maxHeartbeats 1600000 in
theorem unescapedByte_any (s : ByteArray) (i : Nat) (w : World) (hs : s.size ≤ 1000000) (hi : i ≤ s.size) :
    Calls Tryz.prog 91 #[.string s, .int .i64 (i : Int)] w fun e w' => e = .returned (.tuple #[.int .u8 ((unB (s.data.toList.drop i)).1.toNat : Int), .int .i64 ((unB (s.data.toList.drop i)).2 : Int)]) ∧ w' = w := by
  by_cases hlt : i < s.size
  · have hD := drop_at hlt
    have hb : ((s[i].toNat : Nat) : Int) ≤ 255 := by have := s[i].toNat_lt; omega
    cases hpl : plainB (s[i].toNat : Int) with
    | true =>
      have HU : Hid (unB (s.data.toList.drop i) = (s[i], 1)) := by show unB _ = _; rw [hD]; exact unB_plain _ hpl
      clear hD
      go_enter Tryz.func91, Tryz.ntmps91
      go_wp2_with (first
        | (go_at_call 65; refine (isPlain_any _ _ (by omega) (by omega)).mono ?_; rintro e w1 ⟨rfl, hw⟩; have hw := hw.symm; subst hw)
        | fail)
      go_ret2
      exact ⟨ret_tup2 (by rw [unhide HU]; rfl) (by rw [unhide HU]; rfl), rfl⟩
    | false =>
      by_cases h4 : i + 4 ≤ s.size
      · have h1 : i + 1 < s.size := by omega
        have h2 : i + 2 < s.size := by omega
        have h3 : i + 3 < s.size := by omega
        have hD4 : s.data.toList.drop i = s[i] :: s[i + 1] :: s[i + 2] :: s[i + 3] :: s.data.toList.drop (i + 4) := by rw [hD, drop_at h1, drop_at h2, drop_at h3]
        have HU : Hid (unB (s.data.toList.drop i) = if (s[i] = 92 ∧ s[i + 1] = 120) ∧ (0 ≤ hexV (s[i + 2].toNat : Int) ∧ 0 ≤ hexV (s[i + 3].toNat : Int)) ∧ plainB (hexV (s[i + 2].toNat : Int) * 16 + hexV (s[i + 3].toNat : Int)) = false then (UInt8.ofNat (hexV (s[i + 2].toNat : Int) * 16 + hexV (s[i + 3].toNat : Int)).toNat, 4) else (0, 0)) := by
          show unB _ = _; rw [hD4]; exact unB_full _ hpl
        have v2 := hexV_bd (s[i + 2].toNat : Int)
        have v3 := hexV_bd (s[i + 3].toNat : Int)
        have n4 : ¬ (s.size : Int) < (i : Int) + 4 := by omega
        have HPA := hide (pairB_at h1)
        have HH2 := hide (fun wx => hexValue_any s[i + 2] wx)
        have HH3 := hide (fun wx => hexValue_any s[i + 3] wx)
        have k2 : ((i : Int) + 2).toNat = i + 2 := by omega
        have k3 : ((i : Int) + 3).toNat = i + 3 := by omega
        have kp : ((i : Int)).toNat = i := by omega
        have i2 : (i : Int) + 2 < (s.size : Int) := by omega
        have i3 : (i : Int) + 3 < (s.size : Int) := by omega
        clear hD hD4
        cases hpp : pairB s i 92 120 with
        | false =>
          have HV : Hid (unB (s.data.toList.drop i) = (0, 0)) := by
            show unB _ = _
            rw [unhide HU, if_neg]; rintro ⟨h, _⟩; rw [(unhide HPA).2 h] at hpp; cases hpp
          clear HU HPA
          generalize unB (s.data.toList.drop i) = u at *
          go_enter Tryz.func91, Tryz.ntmps91
          go_wp2_with (first
            | (go_at_call 65; refine (isPlain_any _ _ (by omega) (by omega)).mono ?_; rintro e w1 ⟨rfl, hw⟩; have hw := hw.symm; subst hw)
            | (go_at_call 75; refine (isPairW_any _ _ _ _ _ (by omega) (by omega) (by omega) (by decide)).mono ?_; rintro e w1 ⟨rfl, hw⟩; have hw := hw.symm; subst hw)
            | fail)
          go_ret2
          exact ⟨ret_tup2 (by rw [unhide HV]; rfl) (by rw [unhide HV]; rfl), rfl⟩
        | true =>
          have HP2 := hide ((unhide HPA).1 hpp)
          by_cases hh2 : hexV (s[i + 2].toNat : Int) < 0
          · have HV : Hid (unB (s.data.toList.drop i) = (0, 0)) := by
              show unB _ = _
              rw [unhide HU, if_neg]; rintro ⟨_, h, _⟩; omega
            clear HU HPA
            generalize unB (s.data.toList.drop i) = u at *
            generalize hexV (s[i + 2].toNat : Int) = x2 at *
            generalize hexV (s[i + 3].toNat : Int) = x3 at *
            go_enter Tryz.func91, Tryz.ntmps91
            go_wp2_with (first
              | (go_at_call 65; refine (isPlain_any _ _ (by omega) (by omega)).mono ?_; rintro e w1 ⟨rfl, hw⟩; have hw := hw.symm; subst hw)
              | (go_at_call 75; refine (isPairW_any _ _ _ _ _ (by omega) (by omega) (by omega) (by decide)).mono ?_; rintro e w1 ⟨rfl, hw⟩; have hw := hw.symm; subst hw)
              | fail)
            refine (unhide HH2 _).mono ?_
            rintro e w1 ⟨rfl, hw⟩; have hw := hw.symm; subst hw
            go_wp2_with fail
            refine (unhide HH3 _).mono ?_
            rintro e w1 ⟨rfl, hw⟩; have hw := hw.symm; subst hw
            go_wp2_with (first
              | (go_at_call 65; refine (isPlain_any _ _ (by omega) (by omega)).mono ?_; rintro e w1 ⟨rfl, hw⟩; have hw := hw.symm; subst hw)
              | fail)
            go_ret2
            exact ⟨ret_tup2 (by rw [unhide HV]; rfl) (by rw [unhide HV]; rfl), rfl⟩
          by_cases hh3 : hexV (s[i + 3].toNat : Int) < 0
          · have HV : Hid (unB (s.data.toList.drop i) = (0, 0)) := by
              show unB _ = _
              rw [unhide HU, if_neg]; rintro ⟨_, h, _⟩; omega
            clear HU HPA
            generalize unB (s.data.toList.drop i) = u at *
            generalize hexV (s[i + 2].toNat : Int) = x2 at *
            generalize hexV (s[i + 3].toNat : Int) = x3 at *
            go_enter Tryz.func91, Tryz.ntmps91
            go_wp2_with (first
              | (go_at_call 65; refine (isPlain_any _ _ (by omega) (by omega)).mono ?_; rintro e w1 ⟨rfl, hw⟩; have hw := hw.symm; subst hw)
              | (go_at_call 75; refine (isPairW_any _ _ _ _ _ (by omega) (by omega) (by omega) (by decide)).mono ?_; rintro e w1 ⟨rfl, hw⟩; have hw := hw.symm; subst hw)
              | fail)
            refine (unhide HH2 _).mono ?_
            rintro e w1 ⟨rfl, hw⟩; have hw := hw.symm; subst hw
            go_wp2_with fail
            refine (unhide HH3 _).mono ?_
            rintro e w1 ⟨rfl, hw⟩; have hw := hw.symm; subst hw
            go_wp2_with (first
              | (go_at_call 65; refine (isPlain_any _ _ (by omega) (by omega)).mono ?_; rintro e w1 ⟨rfl, hw⟩; have hw := hw.symm; subst hw)
              | fail)
            go_ret2
            exact ⟨ret_tup2 (by rw [unhide HV]; rfl) (by rw [unhide HV]; rfl), rfl⟩
          have hw := IntKind.wrap_u8 (hexV (s[i + 2].toNat : Int) * 16 + hexV (s[i + 3].toNat : Int))
          obtain ⟨v, hv, hv0, hv1⟩ : ∃ v : Int, hexV (s[i + 2].toNat : Int) * 16 + hexV (s[i + 3].toNat : Int) = v ∧ 0 ≤ v ∧ v ≤ 255 := ⟨_, rfl, by omega, by omega⟩
          rw [hv] at hw HU
          have hwv : IntKind.u8.wrap v = v := by omega
          have HNO : Hid (plainB v = true → unB (s.data.toList.drop i) = (0, 0)) := by
            intro h; rw [unhide HU, if_neg]; rintro ⟨_, _, h2⟩; rw [h] at h2; cases h2
          have HYES : Hid (plainB v = false → unB (s.data.toList.drop i) = (UInt8.ofNat v.toNat, 4)) := by
            intro h; rw [unhide HU, if_pos ⟨unhide HP2, ⟨by omega, by omega⟩, h⟩]
          have HTN : Hid (((UInt8.ofNat v.toNat).toNat : Int) = v) := by show _ = _; rw [UInt8.toNat_ofNat']; omega
          clear hw HU HPA HP2
          generalize unB (s.data.toList.drop i) = u at *
          generalize hexV (s[i + 2].toNat : Int) = x2 at *
          generalize hexV (s[i + 3].toNat : Int) = x3 at *
          cases hpv : plainB v with
          | true =>
            go_enter Tryz.func91, Tryz.ntmps91
            go_wp2_with (first
              | (go_at_call 65; refine (isPlain_any _ _ (by omega) (by omega)).mono ?_; rintro e w1 ⟨rfl, hw⟩; have hw := hw.symm; subst hw)
              | (go_at_call 75; refine (isPairW_any _ _ _ _ _ (by omega) (by omega) (by omega) (by decide)).mono ?_; rintro e w1 ⟨rfl, hw⟩; have hw := hw.symm; subst hw)
              | fail)
            refine (unhide HH2 _).mono ?_
            rintro e w1 ⟨rfl, hw⟩; have hw := hw.symm; subst hw
            go_wp2_with fail
            refine (unhide HH3 _).mono ?_
            rintro e w1 ⟨rfl, hw⟩; have hw := hw.symm; subst hw
            go_wp2_with (first
              | (go_at_call 65; refine (isPlain_any _ _ (by omega) (by omega)).mono ?_; rintro e w1 ⟨rfl, hw⟩; have hw := hw.symm; subst hw)
              | fail)
            go_ret2
            exact ⟨ret_tup2 (by rw [unhide HNO hpv]; rfl) (by rw [unhide HNO hpv]; rfl), rfl⟩
          | false =>
            go_enter Tryz.func91, Tryz.ntmps91
            go_wp2_with (first
              | (go_at_call 65; refine (isPlain_any _ _ (by omega) (by omega)).mono ?_; rintro e w1 ⟨rfl, hw⟩; have hw := hw.symm; subst hw)
              | (go_at_call 75; refine (isPairW_any _ _ _ _ _ (by omega) (by omega) (by omega) (by decide)).mono ?_; rintro e w1 ⟨rfl, hw⟩; have hw := hw.symm; subst hw)
              | fail)
            refine (unhide HH2 _).mono ?_
            rintro e w1 ⟨rfl, hw⟩; have hw := hw.symm; subst hw
            go_wp2_with fail
            refine (unhide HH3 _).mono ?_
            rintro e w1 ⟨rfl, hw⟩; have hw := hw.symm; subst hw
            go_wp2_with (first
              | (go_at_call 65; refine (isPlain_any _ _ (by omega) (by omega)).mono ?_; rintro e w1 ⟨rfl, hw⟩; have hw := hw.symm; subst hw)
              | fail)
            go_ret2
            exact ⟨ret_tup2 (by rw [unhide HYES hpv, unhide HTN]; rfl) (by rw [unhide HYES hpv]; rfl), rfl⟩
      · have HV : Hid (unB (s.data.toList.drop i) = (0, 0)) := by
          show unB _ = _
          refine unB_short (by rw [List.length_drop]; show s.size - i < 4; omega) (fun a t h => ?_)
          rw [hD] at h; cases h; exact hpl
        have n4 : (s.size : Int) < (i : Int) + 4 := by omega
        clear hD
        generalize unB (s.data.toList.drop i) = u at *
        go_enter Tryz.func91, Tryz.ntmps91
        go_wp2_with (first
          | (go_at_call 65; refine (isPlain_any _ _ (by omega) (by omega)).mono ?_; rintro e w1 ⟨rfl, hw⟩; have hw := hw.symm; subst hw)
          | fail)
        go_ret2
        exact ⟨ret_tup2 (by rw [unhide HV]; rfl) (by rw [unhide HV]; rfl), rfl⟩
  · have HV : Hid (unB (s.data.toList.drop i) = (0, 0)) := by show unB _ = _; rw [List.drop_of_length_le (by show s.size ≤ i; omega)]; rfl
    generalize unB (s.data.toList.drop i) = u at *
    go_enter Tryz.func91, Tryz.ntmps91
    go_wp2_with fail
    go_ret2
    exact ⟨ret_tup2 (by rw [unhide HV]; rfl) (by rw [unhide HV]; rfl), rfl⟩

end Go.Proofs.YtdaneedflpfeaabGreatDoor

namespace Go.Proofs.YtdaneedflpfeaabGreatDoor
set_option maxRecDepth 100000
open Go.RowKit

/-- The text that is written so; none, if a byte is written otherwise than labels write it. -/
def unL (l : List UInt8) : Option (List UInt8) :=
  if _h : (unB l).2 = 0 then (if l = [] then some [] else none) else (unL (l.drop (unB l).2)).map ((unB l).1 :: ·)
  termination_by l.length
  decreasing_by rw [List.length_drop]; have := unB_le l; omega
theorem unL_nil : unL [] = some [] := by rw [unL]; simp [unB]
theorem unL_no {l : List UInt8} (h : (unB l).2 = 0) (hl : l ≠ []) : unL l = none := by rw [unL, dif_pos h, if_neg hl]
theorem unL_yes {l : List UInt8} (h : (unB l).2 ≠ 0) : unL l = (unL (l.drop (unB l).2)).map ((unB l).1 :: ·) := by rw [unL, dif_neg h]

def unR : Option (List UInt8) → Ending
  | some o => .returned (.tuple #[.string (mk o), .bool true])
  | none => .returned (.tuple #[.string ⟨#[]⟩, .bool false])

set_option maxHeartbeats 1600000 in
theorem unescaped_any (s : ByteArray) (w : World) (hs : s.size ≤ 1000000) :
    Calls Tryz.prog 83 #[.string s] w fun e w' => e = unR (unL s.data.toList) ∧ Below w.heap.size w w' := by
  obtain ⟨i0, hi, hz0, hz1, hz2⟩ := info_parts Tryz.infoU8
  go_enter Tryz.func83, Tryz.ntmps83
  go_wp2_with fail
  go_loopw [4, 5, 6, 7] (fun v i _ _ wr => ∃ (k : Nat) (o : List UInt8), k ≤ s.size ∧ i = .int .i64 k ∧ o.length ≤ k ∧ wr.ownsRow w.heap.size 5 1 v o.length (u8s o) ∧ Hid ((unL (s.data.toList.drop k)).map (o ++ ·) = unL s.data.toList) ∧ Below w.heap.size w wr) (fun _ i _ _ _ => s.size - (intOf i).toNat)
  case atStart => exact ⟨0, [], Nat.zero_le _, rfl, Nat.le_refl _, World.ownsRow_nil _ _ _ _, by show _ = _; rw [List.drop_zero]; simp, Below.refl _ _⟩
  case round =>
    obtain ⟨k, o, hk, rfl, hol, hown, HE, hB⟩ := hrel
    have HO := hide hown
    have HB := hide hB
    have hsz := hB.size
    by_cases hlt : k < s.size
    · clear hown hB
      have HU := hide (fun wx => unescapedByte_any s k wx hs hk)
      have hle := unB_le (s.data.toList.drop k)
      rw [List.length_drop] at hle
      have hle2 : (unB (s.data.toList.drop k)).2 ≤ s.size - k := hle
      have HNE : Hid (s.data.toList.drop k ≠ []) := by show _ ≠ _; rw [drop_at hlt]; simp
      have HY := hide (fun h => unL_yes (l := s.data.toList.drop k) h)
      have HN := hide (fun h => unL_no (l := s.data.toList.drop k) h (unhide HNE))
      have HDD : Hid (∀ n, (s.data.toList.drop k).drop n = s.data.toList.drop (k + n)) := fun n => by rw [List.drop_drop]
      clear hle HNE
      generalize unB (s.data.toList.drop k) = u at *
      obtain ⟨c, n⟩ := u
      by_cases hn : n = 0
      · subst hn
        have HR : Hid (unL s.data.toList = none) := by show _ = _; rw [← unhide HE, unhide HN rfl]; rfl
        clear HE HY HN hle2
        go_wp2_with fail
        refine (unhide HU _).mono ?_
        rintro e w1 ⟨rfl, hw⟩; have hw := hw.symm; subst hw
        go_wp2_with fail
        go_ret2
        rw [unhide HR]
        exact ⟨rfl, unhide HB⟩
      · have hn' : ((n : Int) == 0) = false := by rw [beq_eq_false_iff_ne]; omega
        have HE2 : Hid ((unL (s.data.toList.drop (k + n))).map ((o ++ [c]) ++ ·) = unL s.data.toList) := by
          show _ = _
          rw [← unhide HE, unhide HY hn, ← unhide HDD n]
          simp only [Option.map_map, Function.comp_def, List.append_assoc, List.singleton_append]
        have hle3 : n ≤ s.size - k := hle2
        clear HE HY HN HDD hle2
        go_wp2_with fail
        refine (unhide HU _).mono ?_
        rintro e w1 ⟨rfl, hw⟩; have hw := hw.symm; subst hw
        go_wp2_with (first
          | (at_builtin; refine wpList_append_lies _ rfl (.tmp 20) (.tmp 22) 92 rfl w.heap.size 5 i0 (.int .u8 0) 1 1 Tryz.underlying92 hi hz0 hz1 hz2 rfl (by decide) _ o.length (u8s o) rfl ((unhide HO).alloc _) ⟨wr.heap.size, 0, none⟩ 1 1 [.int .u8 (c.toNat : Int)] rfl rfl (news_of (heap_alloc_new _ _)) (by intro u hu; simp at hu; subst hu; rfl) (by decide) (by unfold maxLen; omega) (by omega) (by simp; omega) _ rfl ?_)
          | fail)
        intro g cap w2 hown2 hgrow _ hlt2
        have hB2 : Below w.heap.size w w2 := ((unhide HB).alloc hsz _).grown hgrow (by simp; omega) (fun j hj => ((unhide HO).lt j hj).1)
        have HB2 := hide hB2
        have HO2 := hide hown2
        clear hown2 hgrow hB2 HO HB
        go_wp2_with fail
        go_roundw
        case rel => exact ⟨k + n, o ++ [c], by omega, by go_num, by simp; omega, by rw [u8s_append, List.length_append]; exact unhide HO2, HE2, unhide HB2⟩
        case measure => simp [intOf]; omega
    · have hcv := conv_own hown
      have HR : Hid (unL s.data.toList = some o) := by
        show _ = _
        rw [← unhide HE, List.drop_of_length_le (by show s.size ≤ k; omega), unL_nil]; simp
      clear hown hB HE
      go_wp2_with fail
      go_ret2
      rw [unhide HR]
      exact ⟨rfl, unhide HB⟩

/-! ## Numbers -/
def digV (l : List UInt8) : Nat := l.foldl (fun n c => n * 10 + (c.toNat - 48)) 0
theorem digV_snoc (l : List UInt8) (c : UInt8) : digV (l ++ [c]) = digV l * 10 + (c.toNat - 48) := by simp [digV]
def allDig (l : List UInt8) : Bool := l.all fun c => digitB (c.toNat : Int)
theorem digV_lt (l : List UInt8) (h : allDig l = true) : digV l < 10 ^ l.length := by
  generalize hn : l.length = n
  induction n generalizing l with
  | zero => have : l = [] := List.eq_nil_of_length_eq_zero hn; subst this; simp [digV]
  | succ n ih =>
    rcases List.eq_nil_or_concat l with rfl | ⟨l, x, rfl⟩
    · simp at hn
    · rw [List.concat_eq_append] at h hn ⊢
      simp only [allDig, List.all_append, Bool.and_eq_true, List.all_cons, List.all_nil] at h
      have := ih l h.1 (by simpa using hn)
      have hd := h.2.1
      simp only [digitB, decide_eq_true_eq] at hd
      rw [digV_snoc, Nat.pow_succ]; omega
theorem digV_bd (l : List UInt8) (h : allDig l = true) (hl : l.length ≤ 6) : digV l ≤ 999999 := by
  have h1 := digV_lt l h
  have h2 : 10 ^ l.length ≤ 10 ^ 6 := Nat.pow_le_pow_right (by decide) hl
  omega
/-- A number of a step: up to six digits, no nought ahead. -/
def numV (l : List UInt8) : Option Nat := if l = [] ∨ 6 < l.length ∨ (l.head? = some 48 ∧ 1 < l.length) then none else if allDig l then some (digV l) else none
theorem numV_bd {l : List UInt8} {n : Nat} (h : numV l = some n) : n ≤ 999999 := by
  unfold numV at h
  split at h
  · cases h
  · rename_i hc
    split at h
    · rename_i hd; cases h; exact digV_bd l hd (by rcases Nat.lt_or_ge 6 l.length with g | g; exact absurd (.inr (.inl g)) hc; exact g)
    · cases h
def numR : Option Nat → Ending
  | some n => .returned (.tuple #[.int .i64 (n : Int), .bool true])
  | none => .returned (.tuple #[.int .i64 0, .bool false])
theorem size0 {s : ByteArray} (h : s.size = 0) : s = ⟨#[]⟩ := by
  cases s with
  | mk d => have : d = #[] := Array.eq_empty_of_size_eq_zero h; rw [this]
theorem toList_ne {s : ByteArray} (h : 0 < s.size) : (s.toList == []) = false := by
  rw [Go.ByteArray.toList_eq, beq_eq_false_iff_ne]
  intro e
  have : s.data.toList.length = 0 := by rw [e]; rfl
  have h2 : s.data.toList.length = s.size := rfl
  omega
theorem head_at {s : ByteArray} (h : 0 < s.size) : s.data.toList.head? = some s[0] := by
  have := drop_at h
  rw [List.drop_zero] at this
  rw [this]; rfl

set_option maxHeartbeats 1600000 in
theorem readNumber_any (s : ByteArray) (w : World) (hs : s.size ≤ 1000000) :
    Calls Tryz.prog 70 #[.string s] w fun e w' => e = numR (numV s.data.toList) ∧ w' = w := by
  by_cases he : s.size = 0
  · have hse := size0 he
    subst hse
    go_enter Tryz.func70, Tryz.ntmps70
    go_wp2_with fail
    go_ret2
    exact ⟨rfl, rfl⟩
  have hpos : 0 < s.size := by omega
  have hne := toList_ne hpos
  have HNE : Hid (s.data.toList ≠ []) := by show _ ≠ _; intro e; have h2 : s.data.toList.length = s.size := rfl; rw [e] at h2; simp at h2; omega
  have HLEN : Hid (s.data.toList.length = s.size) := rfl
  by_cases h6 : 6 < s.size
  · have HV : Hid (numV s.data.toList = none) := by show _ = _; rw [numV, if_pos (.inr (.inl (by rw [unhide HLEN]; exact h6)))]
    go_enter Tryz.func70, Tryz.ntmps70
    go_wp2_with fail
    go_ret2
    rw [unhide HV]
    exact ⟨rfl, rfl⟩
  have HH := hide (head_at hpos)
  by_cases h0 : (s[0].toNat : Int) = 48 ∧ 1 < s.size
  · obtain ⟨h48, h1⟩ := h0
    have HV : Hid (numV s.data.toList = none) := by
      show _ = _
      rw [numV, if_pos (.inr (.inr ⟨by rw [unhide HH]; congr 1; exact UInt8.toNat_inj.1 (by show _ = 48; omega), by rw [unhide HLEN]; exact h1⟩))]
    have h48' : ((s[0].toNat : Int) == 48) = true := by simp [h48]
    clear h48
    go_enter Tryz.func70, Tryz.ntmps70
    go_wp2_with fail
    go_ret2
    rw [unhide HV]
    exact ⟨rfl, rfl⟩
  have HC : Hid (numV s.data.toList = if allDig s.data.toList then some (digV s.data.toList) else none) := by
    show numV _ = _
    rw [numV, if_neg]
    rintro (h | h | ⟨h, h1⟩)
    · exact unhide HNE h
    · rw [unhide HLEN] at h; omega
    · rw [unhide HH] at h
      rw [unhide HLEN] at h1
      refine h0 ⟨?_, h1⟩
      rw [Option.some.inj h]; rfl
  have hor : ((s[0].toNat : Int) == 48) = false ∨ (((s[0].toNat : Int) == 48) = true ∧ ¬ (1 : Int) < (s.size : Int)) := by
    by_cases g : (s[0].toNat : Int) = 48
    · exact .inr ⟨by simp [g], fun h => h0 ⟨g, by omega⟩⟩
    · exact .inl (by simp [g])
  clear HH h0 HNE
  rcases hor with hz | ⟨hz1, hz⟩
  all_goals
    go_enter Tryz.func70, Tryz.ntmps70
    go_wp2_with fail
    go_loop [4, 5] (fun v i => ∃ k : Nat, k ≤ s.size ∧ i = .int .i64 k ∧ v = .int .i64 (digV (s.data.toList.take k) : Int) ∧ Hid (allDig (s.data.toList.take k) = true) ∧ digV (s.data.toList.take k) ≤ 999999) (fun _ i => s.size - (intOf i).toNat)
    case atStart => exact ⟨0, Nat.zero_le _, rfl, rfl, rfl, Nat.zero_le _⟩
    case round =>
      obtain ⟨k, hk, rfl, rfl, HA, hbd⟩ := hrel
      by_cases hlt : k < s.size
      · have HT := hide (take_snocB s k hlt)
        have hb : ((s[k].toNat : Nat) : Int) ≤ 255 := by have := s[k].toNat_lt; omega
        cases hd : digitB (s[k].toNat : Int) with
        | true =>
          have hdd : 48 ≤ (s[k].toNat : Int) ∧ (s[k].toNat : Int) ≤ 57 := by simpa [digitB] using hd
          have hw0 := IntKind.wrap_u8 ((s[k].toNat : Int) - 48)
          have hw : IntKind.u8.wrap ((s[k].toNat : Int) - 48) = (s[k].toNat : Int) - 48 := by omega
          have HA2 : Hid (allDig (s.data.toList.take (k + 1)) = true) := by
            show _ = _
            have := unhide HA
            rw [unhide HT]; simp only [allDig, List.all_append, Bool.and_eq_true] at this ⊢; exact ⟨this, by simp [hd]⟩
          have HV2 : Hid ((digV (s.data.toList.take (k + 1)) : Int) = (digV (s.data.toList.take k) : Int) * 10 + ((s[k].toNat : Int) - 48)) := by
            show _ = _
            rw [unhide HT, digV_snoc]; omega
          have hbd2 : digV (s.data.toList.take (k + 1)) ≤ 999999 := digV_bd _ (unhide HA2) (by have := List.length_take_le (k + 1) s.data.toList; omega)
          clear hw0
          generalize digV (s.data.toList.take k) = V at *
          go_wp2_with (first
            | (go_at_call 58; refine (isDigit_any _ _ (by omega) (by omega)).mono ?_; rintro e w1 ⟨rfl, hw⟩; have hw := hw.symm; subst hw)
            | fail)
          go_round
          case rel => exact ⟨k + 1, by omega, by go_num, by rw [unhide HV2], HA2, hbd2⟩
          case measure => simp [intOf]; omega
        | false =>
          have HV : Hid (numV s.data.toList = none) := by
            show _ = _
            rw [unhide HC, if_neg]
            intro h
            have h1 := List.all_eq_true.1 h s[k] (by have : s[k] ∈ s.data.toList := List.getElem_mem (show k < s.data.toList.length from hlt); exact this)
            rw [hd] at h1; cases h1
          go_wp2_with (first
            | (go_at_call 58; refine (isDigit_any _ _ (by omega) (by omega)).mono ?_; rintro e w1 ⟨rfl, hw⟩; have hw := hw.symm; subst hw)
            | fail)
          go_ret2
          rw [unhide HV]
          exact ⟨rfl, rfl⟩
      · have HT : Hid (s.data.toList.take k = s.data.toList) := List.take_of_length_le (by show s.size ≤ k; omega)
        have HV : Hid (numV s.data.toList = some (digV (s.data.toList.take k))) := by
          show _ = _
          rw [unhide HC, unhide HT, if_pos]; have := unhide HA; rw [unhide HT] at this; exact this
        generalize digV (s.data.toList.take k) = V at *
        go_wp2_with fail
        go_ret2
        rw [unhide HV]
        exact ⟨rfl, rfl⟩

end Go.Proofs.YtdaneedflpfeaabGreatDoor
