import Derived.Test.YtabafeckdclekaaGreatDoorPatA
namespace Go.Proofs.YtabafeckdclekaaGreatDoor
set_option maxRecDepth 100000
open Go.RowKit

/-- The byte that stands first as labels write it, and how many bytes that takes: none, if it is written otherwise. -/
def unB : List UInt8 → UInt8 × Nat
  | [] => (0, 0)
  | a :: t => if plainB (a.toNat : Int) then (a, 1) else
    match t with
    | b :: h :: o :: _ => if (a = 92 ∧ b = 120) ∧ (0 ≤ hexV (h.toNat : Int) ∧ 0 ≤ hexV (o.toNat : Int)) ∧ plainB (hexV (h.toNat : Int) * 16 + hexV (o.toNat : Int)) = false then (UInt8.ofNat (hexV (h.toNat : Int) * 16 + hexV (o.toNat : Int)).toNat, 4) else (0, 0)
    | _ => (0, 0)
theorem unB_plain {a : UInt8} (t : List UInt8) (h : plainB (a.toNat : Int) = true) : unB (a :: t) = (a, 1) := by simp [unB, h]
theorem unB_short {l : List UInt8} (hl : l.length < 4) (h : ∀ a t, l = a :: t → plainB (a.toNat : Int) = false) : unB l = (0, 0) := by
  match l, hl with
  | [], _ => rfl
  | [a], _ => simp [unB, h a [] rfl]
  | [a, b], _ => simp [unB, h a [b] rfl]
  | [a, b, c], _ => simp [unB, h a [b, c] rfl]
theorem unB_full {a b h o : UInt8} (t : List UInt8) (hp : plainB (a.toNat : Int) = false) : unB (a :: b :: h :: o :: t) = if (a = 92 ∧ b = 120) ∧ (0 ≤ hexV (h.toNat : Int) ∧ 0 ≤ hexV (o.toNat : Int)) ∧ plainB (hexV (h.toNat : Int) * 16 + hexV (o.toNat : Int)) = false then (UInt8.ofNat (hexV (h.toNat : Int) * 16 + hexV (o.toNat : Int)).toNat, 4) else (0, 0) := by simp [unB, hp]
theorem unB_le (l : List UInt8) : (unB l).2 ≤ l.length := by
  match l with
  | [] => simp [unB]
  | a :: t =>
    simp only [unB]
    split
    · simp
    · split
      · split
        · simp
        · simp
      · simp
theorem drop_at {s : ByteArray} {i : Nat} (h : i < s.size) : s.data.toList.drop i = s[i] :: s.data.toList.drop (i + 1) := by
  rw [List.drop_eq_getElem_cons (by exact h)]; rfl
theorem ret_tup2 {a b c d : Value} (h1 : a = c) (h2 : b = d) : Ending.returned (.tuple #[a, b]) = .returned (.tuple #[c, d]) := by rw [h1, h2]
theorem pairB_at {s : ByteArray} {i : Nat} (h : i + 1 < s.size) : pairB s i 92 120 = true ↔ (s[i] = 92 ∧ s[i + 1] = 120) := by
  rw [pairB, bt_in (by omega), bt_in h, Bool.and_eq_true, beq_iff_eq, beq_iff_eq]
  constructor
  · rintro ⟨a, b⟩; exact ⟨UInt8.toNat_inj.1 (by show _ = 92; omega), UInt8.toNat_inj.1 (by show _ = 120; omega)⟩
  · rintro ⟨a, b⟩; rw [a, b]; decide

set_option maxHeartbeats 1600000 in
theorem unescapedByte_any (s : ByteArray) (i : Nat) (w : World) (hs : s.size ≤ 1000000) (hi : i ≤ s.size) :
    Calls Tryz.prog 86 #[.string s, .int .i64 (i : Int)] w fun e w' => e = .returned (.tuple #[.int .u8 ((unB (s.data.toList.drop i)).1.toNat : Int), .int .i64 ((unB (s.data.toList.drop i)).2 : Int)]) ∧ w' = w := by
  by_cases hlt : i < s.size
  · have hD := drop_at hlt
    have hb : ((s[i].toNat : Nat) : Int) ≤ 255 := by have := s[i].toNat_lt; omega
    cases hpl : plainB (s[i].toNat : Int) with
    | true =>
      have HU : Hid (unB (s.data.toList.drop i) = (s[i], 1)) := by show unB _ = _; rw [hD]; exact unB_plain _ hpl
      clear hD
      go_enter Tryz.func86, Tryz.ntmps86
      go_wp2_with (first
        | (go_at_call 90; refine (isPlain_any _ _ (by omega) (by omega)).mono ?_; rintro e w1 ⟨rfl, hw⟩; have hw := hw.symm; subst hw)
        | fail)
      go_ret2
      exact ⟨ret_tup2 (by rw [unhide HU]; rfl) (by rw [unhide HU]; rfl), rfl⟩
    | false =>
      by_cases h4 : i + 4 ≤ s.size
      · have h1 : i + 1 < s.size := by omega
        have h2 : i + 2 < s.size := by omega
        have h3 : i + 3 < s.size := by omega
        have hD4 : s.data.toList.drop i = s[i] :: s[i + 1] :: s[i + 2] :: s[i + 3] :: s.data.toList.drop (i + 4) := by rw [hD, drop_at h1, drop_at h2, drop_at h3]
        have HU : Hid (unB (s.data.toList.drop i) = if (s[i] = 92 ∧ s[i + 1] = 120) ∧ (0 ≤ hexV (s[i + 2].toNat : Int) ∧ 0 ≤ hexV (s[i + 3].toNat : Int)) ∧ plainB (hexV (s[i + 2].toNat : Int) * 16 + hexV (s[i + 3].toNat : Int)) = false then (UInt8.ofNat (hexV (s[i + 2].toNat : Int) * 16 + hexV (s[i + 3].toNat : Int)).toNat, 4) else (0, 0)) := by
          show unB _ = _; rw [hD4]; exact unB_full _ hpl
        have v2 := hexV_bd (s[i + 2].toNat : Int)
        have v3 := hexV_bd (s[i + 3].toNat : Int)
        have n4 : ¬ (s.size : Int) < (i : Int) + 4 := by omega
        have HPA := hide (pairB_at h1)
        have HH2 := hide (fun wx => hexValue_any s[i + 2] wx)
        have HH3 := hide (fun wx => hexValue_any s[i + 3] wx)
        have k2 : ((i : Int) + 2).toNat = i + 2 := by omega
        have k3 : ((i : Int) + 3).toNat = i + 3 := by omega
        have kp : ((i : Int)).toNat = i := by omega
        have i2 : (i : Int) + 2 < (s.size : Int) := by omega
        have i3 : (i : Int) + 3 < (s.size : Int) := by omega
        clear hD hD4
        cases hpp : pairB s i 92 120 with
        | false =>
          have HV : Hid (unB (s.data.toList.drop i) = (0, 0)) := by
            show unB _ = _
            rw [unhide HU, if_neg]; rintro ⟨h, _⟩; rw [(unhide HPA).2 h] at hpp; cases hpp
          clear HU HPA
          generalize unB (s.data.toList.drop i) = u at *
          go_enter Tryz.func86, Tryz.ntmps86
          go_wp2_with (first
            | (go_at_call 90; refine (isPlain_any _ _ (by omega) (by omega)).mono ?_; rintro e w1 ⟨rfl, hw⟩; have hw := hw.symm; subst hw)
            | (go_at_call 71; refine (isPairW_any _ _ _ _ _ (by omega) (by omega) (by omega) (by decide)).mono ?_; rintro e w1 ⟨rfl, hw⟩; have hw := hw.symm; subst hw)
            | fail)
          go_ret2
          exact ⟨ret_tup2 (by rw [unhide HV]; rfl) (by rw [unhide HV]; rfl), rfl⟩
        | true =>
          have HP2 := hide ((unhide HPA).1 hpp)
          by_cases hh2 : hexV (s[i + 2].toNat : Int) < 0
          · have HV : Hid (unB (s.data.toList.drop i) = (0, 0)) := by
              show unB _ = _
              rw [unhide HU, if_neg]; rintro ⟨_, h, _⟩; omega
            clear HU HPA
            generalize unB (s.data.toList.drop i) = u at *
            generalize hexV (s[i + 2].toNat : Int) = x2 at *
            generalize hexV (s[i + 3].toNat : Int) = x3 at *
            go_enter Tryz.func86, Tryz.ntmps86
            go_wp2_with (first
              | (go_at_call 90; refine (isPlain_any _ _ (by omega) (by omega)).mono ?_; rintro e w1 ⟨rfl, hw⟩; have hw := hw.symm; subst hw)
              | (go_at_call 71; refine (isPairW_any _ _ _ _ _ (by omega) (by omega) (by omega) (by decide)).mono ?_; rintro e w1 ⟨rfl, hw⟩; have hw := hw.symm; subst hw)
              | fail)
            refine (unhide HH2 _).mono ?_
            rintro e w1 ⟨rfl, hw⟩; have hw := hw.symm; subst hw
            go_wp2_with fail
            refine (unhide HH3 _).mono ?_
            rintro e w1 ⟨rfl, hw⟩; have hw := hw.symm; subst hw
            go_wp2_with (first
              | (go_at_call 90; refine (isPlain_any _ _ (by omega) (by omega)).mono ?_; rintro e w1 ⟨rfl, hw⟩; have hw := hw.symm; subst hw)
              | fail)
            go_ret2
            exact ⟨ret_tup2 (by rw [unhide HV]; rfl) (by rw [unhide HV]; rfl), rfl⟩
          by_cases hh3 : hexV (s[i + 3].toNat : Int) < 0
          · have HV : Hid (unB (s.data.toList.drop i) = (0, 0)) := by
              show unB _ = _
              rw [unhide HU, if_neg]; rintro ⟨_, h, _⟩; omega
            clear HU HPA
            generalize unB (s.data.toList.drop i) = u at *
            generalize hexV (s[i + 2].toNat : Int) = x2 at *
            generalize hexV (s[i + 3].toNat : Int) = x3 at *
            go_enter Tryz.func86, Tryz.ntmps86
            go_wp2_with (first
              | (go_at_call 90; refine (isPlain_any _ _ (by omega) (by omega)).mono ?_; rintro e w1 ⟨rfl, hw⟩; have hw := hw.symm; subst hw)
              | (go_at_call 71; refine (isPairW_any _ _ _ _ _ (by omega) (by omega) (by omega) (by decide)).mono ?_; rintro e w1 ⟨rfl, hw⟩; have hw := hw.symm; subst hw)
              | fail)
            refine (unhide HH2 _).mono ?_
            rintro e w1 ⟨rfl, hw⟩; have hw := hw.symm; subst hw
            go_wp2_with fail
            refine (unhide HH3 _).mono ?_
            rintro e w1 ⟨rfl, hw⟩; have hw := hw.symm; subst hw
            go_wp2_with (first
              | (go_at_call 90; refine (isPlain_any _ _ (by omega) (by omega)).mono ?_; rintro e w1 ⟨rfl, hw⟩; have hw := hw.symm; subst hw)
              | fail)
            go_ret2
            exact ⟨ret_tup2 (by rw [unhide HV]; rfl) (by rw [unhide HV]; rfl), rfl⟩
          have hw := IntKind.wrap_u8 (hexV (s[i + 2].toNat : Int) * 16 + hexV (s[i + 3].toNat : Int))
          obtain ⟨v, hv, hv0, hv1⟩ : ∃ v : Int, hexV (s[i + 2].toNat : Int) * 16 + hexV (s[i + 3].toNat : Int) = v ∧ 0 ≤ v ∧ v ≤ 255 := ⟨_, rfl, by omega, by omega⟩
          rw [hv] at hw HU
          have hwv : IntKind.u8.wrap v = v := by omega
          have HNO : Hid (plainB v = true → unB (s.data.toList.drop i) = (0, 0)) := by
            intro h; rw [unhide HU, if_neg]; rintro ⟨_, _, h2⟩; rw [h] at h2; cases h2
          have HYES : Hid (plainB v = false → unB (s.data.toList.drop i) = (UInt8.ofNat v.toNat, 4)) := by
            intro h; rw [unhide HU, if_pos ⟨unhide HP2, ⟨by omega, by omega⟩, h⟩]
          have HTN : Hid (((UInt8.ofNat v.toNat).toNat : Int) = v) := by show _ = _; rw [UInt8.toNat_ofNat']; omega
          clear hw HU HPA HP2
          generalize unB (s.data.toList.drop i) = u at *
          generalize hexV (s[i + 2].toNat : Int) = x2 at *
          generalize hexV (s[i + 3].toNat : Int) = x3 at *
          cases hpv : plainB v with
          | true =>
            go_enter Tryz.func86, Tryz.ntmps86
            go_wp2_with (first
              | (go_at_call 90; refine (isPlain_any _ _ (by omega) (by omega)).mono ?_; rintro e w1 ⟨rfl, hw⟩; have hw := hw.symm; subst hw)
              | (go_at_call 71; refine (isPairW_any _ _ _ _ _ (by omega) (by omega) (by omega) (by decide)).mono ?_; rintro e w1 ⟨rfl, hw⟩; have hw := hw.symm; subst hw)
              | fail)
            refine (unhide HH2 _).mono ?_
            rintro e w1 ⟨rfl, hw⟩; have hw := hw.symm; subst hw
            go_wp2_with fail
            refine (unhide HH3 _).mono ?_
            rintro e w1 ⟨rfl, hw⟩; have hw := hw.symm; subst hw
            go_wp2_with (first
              | (go_at_call 90; refine (isPlain_any _ _ (by omega) (by omega)).mono ?_; rintro e w1 ⟨rfl, hw⟩; have hw := hw.symm; subst hw)
              | fail)
            go_ret2
            exact ⟨ret_tup2 (by rw [unhide HNO hpv]; rfl) (by rw [unhide HNO hpv]; rfl), rfl⟩
          | false =>
            go_enter Tryz.func86, Tryz.ntmps86
            go_wp2_with (first
              | (go_at_call 90; refine (isPlain_any _ _ (by omega) (by omega)).mono ?_; rintro e w1 ⟨rfl, hw⟩; have hw := hw.symm; subst hw)
              | (go_at_call 71; refine (isPairW_any _ _ _ _ _ (by omega) (by omega) (by omega) (by decide)).mono ?_; rintro e w1 ⟨rfl, hw⟩; have hw := hw.symm; subst hw)
              | fail)
            refine (unhide HH2 _).mono ?_
            rintro e w1 ⟨rfl, hw⟩; have hw := hw.symm; subst hw
            go_wp2_with fail
            refine (unhide HH3 _).mono ?_
            rintro e w1 ⟨rfl, hw⟩; have hw := hw.symm; subst hw
            go_wp2_with (first
              | (go_at_call 90; refine (isPlain_any _ _ (by omega) (by omega)).mono ?_; rintro e w1 ⟨rfl, hw⟩; have hw := hw.symm; subst hw)
              | fail)
            go_ret2
            exact ⟨ret_tup2 (by rw [unhide HYES hpv, unhide HTN]; rfl) (by rw [unhide HYES hpv]; rfl), rfl⟩
      · have HV : Hid (unB (s.data.toList.drop i) = (0, 0)) := by
          show unB _ = _
          refine unB_short (by rw [List.length_drop]; show s.size - i < 4; omega) (fun a t h => ?_)
          rw [hD] at h; cases h; exact hpl
        have n4 : (s.size : Int) < (i : Int) + 4 := by omega
        clear hD
        generalize unB (s.data.toList.drop i) = u at *
        go_enter Tryz.func86, Tryz.ntmps86
        go_wp2_with (first
          | (go_at_call 90; refine (isPlain_any _ _ (by omega) (by omega)).mono ?_; rintro e w1 ⟨rfl, hw⟩; have hw := hw.symm; subst hw)
          | fail)
        go_ret2
        exact ⟨ret_tup2 (by rw [unhide HV]; rfl) (by rw [unhide HV]; rfl), rfl⟩
  · have HV : Hid (unB (s.data.toList.drop i) = (0, 0)) := by show unB _ = _; rw [List.drop_of_length_le (by show s.size ≤ i; omega)]; rfl
    generalize unB (s.data.toList.drop i) = u at *
    go_enter Tryz.func86, Tryz.ntmps86
    go_wp2_with fail
    go_ret2
    exact ⟨ret_tup2 (by rw [unhide HV]; rfl) (by rw [unhide HV]; rfl), rfl⟩

end Go.Proofs.YtabafeckdclekaaGreatDoor
