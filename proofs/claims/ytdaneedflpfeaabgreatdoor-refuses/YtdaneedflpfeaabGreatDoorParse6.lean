import Derived.Test.YtdaneedflpfeaabGreatDoorTwin
import Derived.Test.YtdaneedflpfeaabGreatDoorParse2
import Derived.Test.YtdaneedflpfeaabGreatDoorParse4
namespace Go.Proofs.YtdaneedflpfeaabGreatDoor
set_option maxRecDepth 100000
open Go.RowKit

set_option maxHeartbeats 1600000 in
theorem sum_step {b : Nat} {tv : Value} {toks : List Tok} {n : Nat} (ih : ∀ m, m ≤ n → IH b tv toks m) {w : World} {st st' : PSt} (hP : PS b tv toks w st) (h : P toks (n + 1) .sum st = some st') : Does 111 b tv toks w st' := by
  have IHH := hide ih
  have HP0 := hide hP
  have B0 := hide (Below.refl b w)
  obtain ⟨nv0, i0, i1, i2, i3, i4, if0, iown, iblk⟩ := hP.cells
  obtain ⟨a0, cap0, hv0⟩ := slice_form iown
  subst hv0
  clear i0 i1 i2 i4 if0 iown iblk
  clear hP ih
  rw [P] at h
  simp only [Option.bind_eq_bind, Option.bind_eq_some_iff] at h
  obtain ⟨s1, h2, h3⟩ := h
  have H4 : Hid _ := h2
  clear h2
  have H5 : Hid _ := h3
  clear h3
  unfold Does
  go_enter Tryz.func111, Tryz.ntmps111
  go_wp2_with fail
  refine Calls.mono (unhide IHH n (Nat.le_refl n) .prod st s1 _ rfl (unhide HP0) (unhide H4)) ?_
  rintro e w6 ⟨rfl, p1, b1⟩; have HP7 := hide p1; have BB8 := hide ((unhide B0).trans b1); clear p1 b1
  go_wp2_with fail
  refine (kq_any (unhide HP7)).mono ?_
  rintro e w1 ⟨rfl, hw⟩; have hw := hw.symm; subst hw
  go_wp2_with fail
  refine (isSumSign_any _ _).mono ?_
  rintro e w1 ⟨rfl, hw⟩; have hw := hw.symm; subst hw
  cases c9 : sumB (kindL toks s1).toList with
  | true =>
    have X10 := (if_pos c9).symm.trans (unhide H5)
    have q11 : sumB (kindL toks s1).toList = true := c9
    clear c9 H5
    simp only [Option.bind_eq_some_iff] at X10
    obtain ⟨s12, h13, s14, h15, h16⟩ := X10
    have H17 : Hid _ := h13
    clear h13
    have H18 : Hid _ := h15
    clear h15
    have H19 : Hid _ := h16
    clear h16
    go_wp2_with fail
    refine (aroundM_any (unhide HP7) (unhide H17)).mono ?_
    rintro e w20 ⟨rfl, p1, b1⟩; have HP21 := hide p1; have BB22 := hide ((unhide BB8).trans b1); clear p1 b1
    go_wp2_with fail
    go_loopg [3] n (fun m sg wr => ∃ sk, m ≤ n ∧ PS b tv toks wr sk ∧ sg = .string (kindL toks sk) ∧ P toks m .sumL sk = some s14 ∧ Below b w wr)
    case atStart => exact ⟨s12, Nat.le_refl _, unhide HP21, by rw [kind_around (unhide H17)], unhide H18, unhide BB22⟩
    case round =>
      obtain ⟨sk, hm, hPk, rfl, hE, hBk⟩ := hrel
      cases gk with
      | zero => cases hE
      | succ m =>
      have HPk := hide hPk
      have HBk := hide hBk
      have HEk : Hid _ := hE
      clear hPk hBk hE
      cases cq : sumB (kindL toks sk).toList with
      | true =>
        go_wp2_with fail
        refine (isSumSign_any _ _).mono ?_
        rintro e w1 ⟨rfl, hw⟩; have hw := hw.symm; subst hw
        have X23 := (if_pos cq).symm.trans (unhide HEk)
        clear HEk
        simp only [Option.bind_eq_bind, Option.bind_eq_some_iff] at X23
        obtain ⟨s24, h25, s26, h27, h28⟩ := X23
        have H29 : Hid _ := h25
        clear h25
        have H30 : Hid _ := h27
        clear h27
        have H31 : Hid _ := h28
        clear h28
        go_wp2_with fail
        refine (takeM_any (unhide HPk) (unhide H29)).mono ?_
        rintro e w32 ⟨rfl, p1, b1⟩; have HP33 := hide p1; have BB34 := hide ((unhide HBk).trans b1); clear p1 b1
        go_wp2_with fail
        refine Calls.mono (unhide IHH m (by omega) .prod s24 s26 _ rfl (unhide HP33) (unhide H30)) ?_
        rintro e w35 ⟨rfl, p1, b1⟩; have HP36 := hide p1; have BB37 := hide ((unhide BB34).trans b1); clear p1 b1
        go_wp2_with fail
        refine (kq_any (unhide HP36)).mono ?_
        rintro e w1 ⟨rfl, hw⟩; have hw := hw.symm; subst hw
        go_wp2_with fail
        go_roundg m
        case measure => exact Nat.lt_succ_self m
        case rel => exact ⟨s26, by omega, unhide HP36, rfl, unhide H31, unhide BB37⟩
      | false =>
        have X38 := (if_neg (show ¬ sumB (kindL toks sk).toList = true by rw [cq]; exact Bool.false_ne_true)).symm.trans (unhide HEk)
        clear HEk
        have e39 := Option.some.inj X38
        clear X38
        subst e39
        go_wp2_with fail
        refine (isSumSign_any _ _).mono ?_
        rintro e w1 ⟨rfl, hw⟩; have hw := hw.symm; subst hw
        go_wp2_with fail
        refine (closeM_any (unhide HPk) (unhide H19)).mono ?_
        rintro e w40 ⟨rfl, p1, b1⟩; have HP41 := hide p1; have BB42 := hide ((unhide HBk).trans b1); clear p1 b1
        go_wp2_with fail
        first | go_end0 | refine bodyPost_ret (results_none (by rfl) _ _ _) rfl ?_
        exact ⟨rfl, unhide HP41, unhide BB42⟩
  | false =>
    have X43 := (if_neg (show ¬ (sumB (kindL toks s1).toList) = true by rw [c9]; exact Bool.false_ne_true)).symm.trans (unhide H5)
    have q44 : sumB (kindL toks s1).toList = false := c9
    clear c9 H5
    have e45 := Option.some.inj X43
    clear X43
    subst e45
    go_wp2_with fail
    first | go_end0 | refine bodyPost_ret (results_none (by rfl) _ _ _) rfl ?_
    exact ⟨rfl, unhide HP7, unhide BB8⟩

set_option maxHeartbeats 1600000 in
theorem prod_step {b : Nat} {tv : Value} {toks : List Tok} {n : Nat} (ih : ∀ m, m ≤ n → IH b tv toks m) {w : World} {st st' : PSt} (hP : PS b tv toks w st) (h : P toks (n + 1) .prod st = some st') : Does 113 b tv toks w st' := by
  have IHH := hide ih
  have HP0 := hide hP
  have B0 := hide (Below.refl b w)
  obtain ⟨nv0, i0, i1, i2, i3, i4, if0, iown, iblk⟩ := hP.cells
  obtain ⟨a0, cap0, hv0⟩ := slice_form iown
  subst hv0
  clear i0 i1 i2 i4 if0 iown iblk
  clear hP ih
  rw [P] at h
  simp only [Option.bind_eq_bind, Option.bind_eq_some_iff] at h
  obtain ⟨s1, h2, h3⟩ := h
  have H4 : Hid _ := h2
  clear h2
  have H5 : Hid _ := h3
  clear h3
  unfold Does
  go_enter Tryz.func113, Tryz.ntmps113
  go_wp2_with fail
  refine Calls.mono (unhide IHH n (Nat.le_refl n) .single st s1 _ rfl (unhide HP0) (unhide H4)) ?_
  rintro e w6 ⟨rfl, p1, b1⟩; have HP7 := hide p1; have BB8 := hide ((unhide B0).trans b1); clear p1 b1
  go_wp2_with fail
  refine (kq_any (unhide HP7)).mono ?_
  rintro e w1 ⟨rfl, hw⟩; have hw := hw.symm; subst hw
  go_wp2_with fail
  refine (isProdSign_any _ _).mono ?_
  rintro e w1 ⟨rfl, hw⟩; have hw := hw.symm; subst hw
  cases c9 : prodB (kindL toks s1).toList with
  | true =>
    have X10 := (if_pos c9).symm.trans (unhide H5)
    have q11 : prodB (kindL toks s1).toList = true := c9
    clear c9 H5
    simp only [Option.bind_eq_some_iff] at X10
    obtain ⟨s12, h13, s14, h15, h16⟩ := X10
    have H17 : Hid _ := h13
    clear h13
    have H18 : Hid _ := h15
    clear h15
    have H19 : Hid _ := h16
    clear h16
    go_wp2_with fail
    refine (aroundM_any (unhide HP7) (unhide H17)).mono ?_
    rintro e w20 ⟨rfl, p1, b1⟩; have HP21 := hide p1; have BB22 := hide ((unhide BB8).trans b1); clear p1 b1
    go_wp2_with fail
    go_loopg [3] n (fun m sg wr => ∃ sk, m ≤ n ∧ PS b tv toks wr sk ∧ sg = .string (kindL toks sk) ∧ P toks m .prodL sk = some s14 ∧ Below b w wr)
    case atStart => exact ⟨s12, Nat.le_refl _, unhide HP21, by rw [kind_around (unhide H17)], unhide H18, unhide BB22⟩
    case round =>
      obtain ⟨sk, hm, hPk, rfl, hE, hBk⟩ := hrel
      cases gk with
      | zero => cases hE
      | succ m =>
      have HPk := hide hPk
      have HBk := hide hBk
      have HEk : Hid _ := hE
      clear hPk hBk hE
      cases cq : prodB (kindL toks sk).toList with
      | true =>
        go_wp2_with fail
        refine (isProdSign_any _ _).mono ?_
        rintro e w1 ⟨rfl, hw⟩; have hw := hw.symm; subst hw
        have X23 := (if_pos cq).symm.trans (unhide HEk)
        clear HEk
        simp only [Option.bind_eq_bind, Option.bind_eq_some_iff] at X23
        obtain ⟨s24, h25, s26, h27, h28⟩ := X23
        have H29 : Hid _ := h25
        clear h25
        have H30 : Hid _ := h27
        clear h27
        have H31 : Hid _ := h28
        clear h28
        go_wp2_with fail
        refine (takeM_any (unhide HPk) (unhide H29)).mono ?_
        rintro e w32 ⟨rfl, p1, b1⟩; have HP33 := hide p1; have BB34 := hide ((unhide HBk).trans b1); clear p1 b1
        go_wp2_with fail
        refine Calls.mono (unhide IHH m (by omega) .single s24 s26 _ rfl (unhide HP33) (unhide H30)) ?_
        rintro e w35 ⟨rfl, p1, b1⟩; have HP36 := hide p1; have BB37 := hide ((unhide BB34).trans b1); clear p1 b1
        go_wp2_with fail
        refine (kq_any (unhide HP36)).mono ?_
        rintro e w1 ⟨rfl, hw⟩; have hw := hw.symm; subst hw
        go_wp2_with fail
        go_roundg m
        case measure => exact Nat.lt_succ_self m
        case rel => exact ⟨s26, by omega, unhide HP36, rfl, unhide H31, unhide BB37⟩
      | false =>
        have X38 := (if_neg (show ¬ prodB (kindL toks sk).toList = true by rw [cq]; exact Bool.false_ne_true)).symm.trans (unhide HEk)
        clear HEk
        have e39 := Option.some.inj X38
        clear X38
        subst e39
        go_wp2_with fail
        refine (isProdSign_any _ _).mono ?_
        rintro e w1 ⟨rfl, hw⟩; have hw := hw.symm; subst hw
        go_wp2_with fail
        refine (closeM_any (unhide HPk) (unhide H19)).mono ?_
        rintro e w40 ⟨rfl, p1, b1⟩; have HP41 := hide p1; have BB42 := hide ((unhide HBk).trans b1); clear p1 b1
        go_wp2_with fail
        first | go_end0 | refine bodyPost_ret (results_none (by rfl) _ _ _) rfl ?_
        exact ⟨rfl, unhide HP41, unhide BB42⟩
  | false =>
    have X43 := (if_neg (show ¬ (prodB (kindL toks s1).toList) = true by rw [c9]; exact Bool.false_ne_true)).symm.trans (unhide H5)
    have q44 : prodB (kindL toks s1).toList = false := c9
    clear c9 H5
    have e45 := Option.some.inj X43
    clear X43
    subst e45
    go_wp2_with fail
    first | go_end0 | refine bodyPost_ret (results_none (by rfl) _ _ _) rfl ?_
    exact ⟨rfl, unhide HP7, unhide BB8⟩

set_option maxHeartbeats 1600000 in
theorem nameOrCall_step {b : Nat} {tv : Value} {toks : List Tok} {n : Nat} (ih : ∀ m, m ≤ n → IH b tv toks m) {w : World} {st st' : PSt} (hP : PS b tv toks w st) (h : P toks (n + 1) .nameOrCall st = some st') : Does 119 b tv toks w st' := by
  have IHH := hide ih
  have HP0 := hide hP
  have B0 := hide (Below.refl b w)
  obtain ⟨nv0, i0, i1, i2, i3, i4, if0, iown, iblk⟩ := hP.cells
  obtain ⟨a0, cap0, hv0⟩ := slice_form iown
  subst hv0
  clear i0 i1 i2 i4 if0 iown iblk
  clear hP ih
  rw [P] at h
  simp only [Option.bind_eq_bind, Option.bind_eq_some_iff] at h
  obtain ⟨s1, h2, h3⟩ := h
  have H4 : Hid _ := h2
  clear h2
  have H5 : Hid _ := h3
  clear h3
  unfold Does
  go_enter Tryz.func119, Tryz.ntmps119
  go_wp2_with fail
  refine (needM_any (unhide HP0) (unhide H4)).mono ?_
  rintro e w6 ⟨rfl, p1, b1⟩; have HP7 := hide p1; have BB8 := hide ((unhide B0).trans b1); clear p1 b1
  go_wp2_with fail
  refine (kq_any (unhide HP7)).mono ?_
  rintro e w1 ⟨rfl, hw⟩; have hw := hw.symm; subst hw
  cases c9 : kq toks s1 [40] with
  | true =>
    have X10 := (if_pos c9).symm.trans (unhide H5)
    have q11 : ((kindL toks s1).toList == [40]) = true := c9
    clear c9 H5
    simp only [Option.bind_eq_some_iff] at X10
    obtain ⟨s12, h13, s14, h15, h16⟩ := X10
    have H17 : Hid _ := h13
    clear h13
    have H18 : Hid _ := h15
    clear h15
    have H19 : Hid _ := h16
    clear h16
    go_wp2_with fail
    refine (aroundM_any (unhide HP7) (unhide H17)).mono ?_
    rintro e w20 ⟨rfl, p1, b1⟩; have HP21 := hide p1; have BB22 := hide ((unhide BB8).trans b1); clear p1 b1
    go_wp2_with fail
    refine (takeM_any (unhide HP21) (unhide H18)).mono ?_
    rintro e w23 ⟨rfl, p1, b1⟩; have HP24 := hide p1; have BB25 := hide ((unhide BB22).trans b1); clear p1 b1
    go_wp2_with fail
    refine (kq_any (unhide HP24)).mono ?_
    rintro e w1 ⟨rfl, hw⟩; have hw := hw.symm; subst hw
    cases c26 : kq toks s14 [41] with
    | true =>
      have X27 := (if_pos c26).symm.trans (unhide H19)
      have q28 : ((kindL toks s14).toList == [41]) = true := c26
      clear c26 H19
      simp only [Option.bind_eq_some_iff] at X27
      obtain ⟨s29, h30, s31, h32, h33⟩ := X27
      have H34 : Hid _ := h30
      clear h30
      have H35 : Hid _ := h32
      clear h32
      have H36 : Hid _ := h33
      clear h33
      have e37 := Option.some.inj (unhide H34)
      clear H34
      subst e37
      go_wp2_with fail
      refine (needM_any (unhide HP24) (unhide H35)).mono ?_
      rintro e w38 ⟨rfl, p1, b1⟩; have HP39 := hide p1; have BB40 := hide ((unhide BB25).trans b1); clear p1 b1
      go_wp2_with fail
      refine (closeM_any (unhide HP39) (unhide H36)).mono ?_
      rintro e w41 ⟨rfl, p1, b1⟩; have HP42 := hide p1; have BB43 := hide ((unhide BB40).trans b1); clear p1 b1
      go_wp2_with fail
      first | go_end0 | refine bodyPost_ret (results_none (by rfl) _ _ _) rfl ?_
      exact ⟨rfl, unhide HP42, unhide BB43⟩
    | false =>
      have X44 := (if_neg (show ¬ (kq toks s14 [41]) = true by rw [c26]; exact Bool.false_ne_true)).symm.trans (unhide H19)
      have q45 : ((kindL toks s14).toList == [41]) = false := c26
      clear c26 H19
      simp only [Option.bind_eq_some_iff] at X44
      obtain ⟨s46, h47, s48, h49, h50⟩ := X44
      have H51 : Hid _ := h47
      clear h47
      have H52 : Hid _ := h49
      clear h49
      have H53 : Hid _ := h50
      clear h50
      go_wp2_with fail
      refine Calls.mono (unhide IHH n (Nat.le_refl n) .values s14 s46 _ rfl (unhide HP24) (unhide H51)) ?_
      rintro e w54 ⟨rfl, p1, b1⟩; have HP55 := hide p1; have BB56 := hide ((unhide BB25).trans b1); clear p1 b1
      go_wp2_with fail
      refine (needM_any (unhide HP55) (unhide H52)).mono ?_
      rintro e w57 ⟨rfl, p1, b1⟩; have HP58 := hide p1; have BB59 := hide ((unhide BB56).trans b1); clear p1 b1
      go_wp2_with fail
      refine (closeM_any (unhide HP58) (unhide H53)).mono ?_
      rintro e w60 ⟨rfl, p1, b1⟩; have HP61 := hide p1; have BB62 := hide ((unhide BB59).trans b1); clear p1 b1
      go_wp2_with fail
      first | go_end0 | refine bodyPost_ret (results_none (by rfl) _ _ _) rfl ?_
      exact ⟨rfl, unhide HP61, unhide BB62⟩
  | false =>
    have X63 := (if_neg (show ¬ (kq toks s1 [40]) = true by rw [c9]; exact Bool.false_ne_true)).symm.trans (unhide H5)
    have q64 : ((kindL toks s1).toList == [40]) = false := c9
    clear c9 H5
    have e65 := Option.some.inj X63
    clear X63
    subst e65
    go_wp2_with fail
    first | go_end0 | refine bodyPost_ret (results_none (by rfl) _ _ _) rfl ?_
    exact ⟨rfl, unhide HP7, unhide BB8⟩

end Go.Proofs.YtdaneedflpfeaabGreatDoor

namespace Go.Proofs.YtdaneedflpfeaabGreatDoor
set_option maxRecDepth 100000
open Go.RowKit

set_option maxHeartbeats 1600000 in
theorem statement_step {b : Nat} {tv : Value} {toks : List Tok} {n : Nat} (ih : ∀ m, m ≤ n → IH b tv toks m) {w : World} {st st' : PSt} (hP : PS b tv toks w st) (h : P toks (n + 1) .statement st = some st') : Does 81 b tv toks w st' := by
  have IHH := hide ih
  have HP0 := hide hP
  have HE : Hid _ := h
  clear hP ih
  rw [P] at h
  clear HE
  cases c0 : kq toks st [123] with
  | true =>
    rw [if_pos c0] at h
    have HX : Hid _ := h
    clear h
    have q0 : ((kindL toks st).toList == [123]) = true := c0
    clear c0
    unfold Does
    go_enter Tryz.func81, Tryz.ntmps81
    go_wp2_with fail
    refine (kq_any (unhide HP0)).mono ?_
    rintro e w1 ⟨rfl, hw⟩; have hw := hw.symm; subst hw
    go_wp2_with fail
    refine Calls.mono (unhide IHH n (Nat.le_refl n) .block st st' _ rfl (unhide HP0) (unhide HX)) ?_
    rintro e w1 ⟨rfl, p1, b1⟩; have HP1 := hide p1; have BB1 := hide b1; clear p1 b1
    go_wp2_with fail
    first | go_end0 | refine bodyPost_ret (results_none (by rfl) _ _ _) rfl ?_
    exact ⟨rfl, unhide HP1, unhide BB1⟩
  | false =>
  rw [if_neg (show ¬ kq toks st [123] = true by rw [c0]; exact Bool.false_ne_true)] at h
  cases c1 : kq toks st [59] with
  | true =>
    rw [if_pos c1] at h
    have HX : Hid _ := h
    clear h
    have q0 : ((kindL toks st).toList == [123]) = false := c0
    have q1 : ((kindL toks st).toList == [59]) = true := c1
    clear c0 c1
    unfold Does
    go_enter Tryz.func81, Tryz.ntmps81
    go_wp2_with fail
    refine (kq_any (unhide HP0)).mono ?_
    rintro e w1 ⟨rfl, hw⟩; have hw := hw.symm; subst hw
    go_wp2_with fail
    refine Calls.mono (unhide IHH n (Nat.le_refl n) .emptyS st st' _ rfl (unhide HP0) (unhide HX)) ?_
    rintro e w1 ⟨rfl, p1, b1⟩; have HP1 := hide p1; have BB1 := hide b1; clear p1 b1
    go_wp2_with fail
    first | go_end0 | refine bodyPost_ret (results_none (by rfl) _ _ _) rfl ?_
    exact ⟨rfl, unhide HP1, unhide BB1⟩
  | false =>
  rw [if_neg (show ¬ kq toks st [59] = true by rw [c1]; exact Bool.false_ne_true)] at h
  cases c2 : kq toks st [105, 102] with
  | true =>
    rw [if_pos c2] at h
    have HX : Hid _ := h
    clear h
    have q0 : ((kindL toks st).toList == [123]) = false := c0
    have q1 : ((kindL toks st).toList == [59]) = false := c1
    have q2 : ((kindL toks st).toList == [105, 102]) = true := c2
    clear c0 c1 c2
    unfold Does
    go_enter Tryz.func81, Tryz.ntmps81
    go_wp2_with fail
    refine (kq_any (unhide HP0)).mono ?_
    rintro e w1 ⟨rfl, hw⟩; have hw := hw.symm; subst hw
    go_wp2_with fail
    refine Calls.mono (unhide IHH n (Nat.le_refl n) .ifS st st' _ rfl (unhide HP0) (unhide HX)) ?_
    rintro e w1 ⟨rfl, p1, b1⟩; have HP1 := hide p1; have BB1 := hide b1; clear p1 b1
    go_wp2_with fail
    first | go_end0 | refine bodyPost_ret (results_none (by rfl) _ _ _) rfl ?_
    exact ⟨rfl, unhide HP1, unhide BB1⟩
  | false =>
  rw [if_neg (show ¬ kq toks st [105, 102] = true by rw [c2]; exact Bool.false_ne_true)] at h
  cases c3 : kq toks st [119, 104, 105, 108, 101] with
  | true =>
    rw [if_pos c3] at h
    have HX : Hid _ := h
    clear h
    have q0 : ((kindL toks st).toList == [123]) = false := c0
    have q1 : ((kindL toks st).toList == [59]) = false := c1
    have q2 : ((kindL toks st).toList == [105, 102]) = false := c2
    have q3 : ((kindL toks st).toList == [119, 104, 105, 108, 101]) = true := c3
    clear c0 c1 c2 c3
    unfold Does
    go_enter Tryz.func81, Tryz.ntmps81
    go_wp2_with fail
    refine (kq_any (unhide HP0)).mono ?_
    rintro e w1 ⟨rfl, hw⟩; have hw := hw.symm; subst hw
    go_wp2_with fail
    refine Calls.mono (unhide IHH n (Nat.le_refl n) .whileS st st' _ rfl (unhide HP0) (unhide HX)) ?_
    rintro e w1 ⟨rfl, p1, b1⟩; have HP1 := hide p1; have BB1 := hide b1; clear p1 b1
    go_wp2_with fail
    first | go_end0 | refine bodyPost_ret (results_none (by rfl) _ _ _) rfl ?_
    exact ⟨rfl, unhide HP1, unhide BB1⟩
  | false =>
  rw [if_neg (show ¬ kq toks st [119, 104, 105, 108, 101] = true by rw [c3]; exact Bool.false_ne_true)] at h
  cases c4 : kq toks st [114, 101, 116, 117, 114, 110] with
  | true =>
    rw [if_pos c4] at h
    have HX : Hid _ := h
    clear h
    have q0 : ((kindL toks st).toList == [123]) = false := c0
    have q1 : ((kindL toks st).toList == [59]) = false := c1
    have q2 : ((kindL toks st).toList == [105, 102]) = false := c2
    have q3 : ((kindL toks st).toList == [119, 104, 105, 108, 101]) = false := c3
    have q4 : ((kindL toks st).toList == [114, 101, 116, 117, 114, 110]) = true := c4
    clear c0 c1 c2 c3 c4
    unfold Does
    go_enter Tryz.func81, Tryz.ntmps81
    go_wp2_with fail
    refine (kq_any (unhide HP0)).mono ?_
    rintro e w1 ⟨rfl, hw⟩; have hw := hw.symm; subst hw
    go_wp2_with fail
    refine Calls.mono (unhide IHH n (Nat.le_refl n) .returnS st st' _ rfl (unhide HP0) (unhide HX)) ?_
    rintro e w1 ⟨rfl, p1, b1⟩; have HP1 := hide p1; have BB1 := hide b1; clear p1 b1
    go_wp2_with fail
    first | go_end0 | refine bodyPost_ret (results_none (by rfl) _ _ _) rfl ?_
    exact ⟨rfl, unhide HP1, unhide BB1⟩
  | false =>
  rw [if_neg (show ¬ kq toks st [114, 101, 116, 117, 114, 110] = true by rw [c4]; exact Bool.false_ne_true)] at h
  cases c5 : kq toks st [116, 121, 112, 101] with
  | true =>
    rw [if_pos c5] at h
    have HX : Hid _ := h
    clear h
    have q0 : ((kindL toks st).toList == [123]) = false := c0
    have q1 : ((kindL toks st).toList == [59]) = false := c1
    have q2 : ((kindL toks st).toList == [105, 102]) = false := c2
    have q3 : ((kindL toks st).toList == [119, 104, 105, 108, 101]) = false := c3
    have q4 : ((kindL toks st).toList == [114, 101, 116, 117, 114, 110]) = false := c4
    have q5 : ((kindL toks st).toList == [116, 121, 112, 101]) = true := c5
    clear c0 c1 c2 c3 c4 c5
    unfold Does
    go_enter Tryz.func81, Tryz.ntmps81
    go_wp2_with fail
    refine (kq_any (unhide HP0)).mono ?_
    rintro e w1 ⟨rfl, hw⟩; have hw := hw.symm; subst hw
    go_wp2_with fail
    refine Calls.mono (unhide IHH n (Nat.le_refl n) .localS st st' _ rfl (unhide HP0) (unhide HX)) ?_
    rintro e w1 ⟨rfl, p1, b1⟩; have HP1 := hide p1; have BB1 := hide b1; clear p1 b1
    go_wp2_with fail
    first | go_end0 | refine bodyPost_ret (results_none (by rfl) _ _ _) rfl ?_
    exact ⟨rfl, unhide HP1, unhide BB1⟩
  | false =>
  rw [if_neg (show ¬ kq toks st [116, 121, 112, 101] = true by rw [c5]; exact Bool.false_ne_true)] at h
  have HX : Hid _ := h
  clear h
  have q0 : ((kindL toks st).toList == [123]) = false := c0
  have q1 : ((kindL toks st).toList == [59]) = false := c1
  have q2 : ((kindL toks st).toList == [105, 102]) = false := c2
  have q3 : ((kindL toks st).toList == [119, 104, 105, 108, 101]) = false := c3
  have q4 : ((kindL toks st).toList == [114, 101, 116, 117, 114, 110]) = false := c4
  have q5 : ((kindL toks st).toList == [116, 121, 112, 101]) = false := c5
  clear c0 c1 c2 c3 c4 c5
  unfold Does
  go_enter Tryz.func81, Tryz.ntmps81
  go_wp2_with fail
  refine (kq_any (unhide HP0)).mono ?_
  rintro e w1 ⟨rfl, hw⟩; have hw := hw.symm; subst hw
  go_wp2_with fail
  refine Calls.mono (unhide IHH n (Nat.le_refl n) .expr st st' _ rfl (unhide HP0) (unhide HX)) ?_
  rintro e w1 ⟨rfl, p1, b1⟩; have HP1 := hide p1; have BB1 := hide b1; clear p1 b1
  go_wp2_with fail
  first | go_end0 | refine bodyPost_ret (results_none (by rfl) _ _ _) rfl ?_
  exact ⟨rfl, unhide HP1, unhide BB1⟩

set_option maxHeartbeats 1600000 in
theorem single_step {b : Nat} {tv : Value} {toks : List Tok} {n : Nat} (ih : ∀ m, m ≤ n → IH b tv toks m) {w : World} {st st' : PSt} (hP : PS b tv toks w st) (h : P toks (n + 1) .single st = some st') : Does 115 b tv toks w st' := by
  have IHH := hide ih
  have HP0 := hide hP
  have HE : Hid _ := h
  clear hP ih
  rw [P] at h
  clear HE
  cases c0 : kq toks st [45] with
  | true =>
    rw [if_pos (by rw [c0]; rfl)] at h
    have HX : Hid _ := h
    clear h
    have q0 : ((kindL toks st).toList == [45]) = true := c0
    clear c0
    unfold Does
    go_enter Tryz.func115, Tryz.ntmps115
    go_wp2_with fail
    refine (kq_any (unhide HP0)).mono ?_
    rintro e w1 ⟨rfl, hw⟩; have hw := hw.symm; subst hw
    go_wp2_with fail
    refine Calls.mono (unhide IHH n (Nat.le_refl n) .neg st st' _ rfl (unhide HP0) (unhide HX)) ?_
    rintro e w1 ⟨rfl, p1, b1⟩; have HP1 := hide p1; have BB1 := hide b1; clear p1 b1
    go_wp2_with fail
    first | go_end0 | refine bodyPost_ret (results_none (by rfl) _ _ _) rfl ?_
    exact ⟨rfl, unhide HP1, unhide BB1⟩
  | false =>
  cases c1 : kq toks st [33] with
  | true =>
    rw [if_pos (by rw [c0, c1]; rfl)] at h
    have HX : Hid _ := h
    clear h
    have q0 : ((kindL toks st).toList == [45]) = false := c0
    have q1 : ((kindL toks st).toList == [33]) = true := c1
    clear c0 c1
    unfold Does
    go_enter Tryz.func115, Tryz.ntmps115
    go_wp2_with fail
    refine (kq_any (unhide HP0)).mono ?_
    rintro e w1 ⟨rfl, hw⟩; have hw := hw.symm; subst hw
    go_wp2_with fail
    refine Calls.mono (unhide IHH n (Nat.le_refl n) .neg st st' _ rfl (unhide HP0) (unhide HX)) ?_
    rintro e w1 ⟨rfl, p1, b1⟩; have HP1 := hide p1; have BB1 := hide b1; clear p1 b1
    go_wp2_with fail
    first | go_end0 | refine bodyPost_ret (results_none (by rfl) _ _ _) rfl ?_
    exact ⟨rfl, unhide HP1, unhide BB1⟩
  | false =>
  rw [if_neg (by rw [c0, c1]; exact Bool.false_ne_true)] at h
  have q0 : ((kindL toks st).toList == [45]) = false := c0
  have q1 : ((kindL toks st).toList == [33]) = false := c1
  clear c0 c1
  cases c0 : kq toks st [40] with
  | true =>
    rw [if_pos c0] at h
    have HX : Hid _ := h
    clear h
    have q2 : ((kindL toks st).toList == [40]) = true := c0
    clear c0
    unfold Does
    go_enter Tryz.func115, Tryz.ntmps115
    go_wp2_with fail
    refine (kq_any (unhide HP0)).mono ?_
    rintro e w1 ⟨rfl, hw⟩; have hw := hw.symm; subst hw
    go_wp2_with fail
    refine Calls.mono (unhide IHH n (Nat.le_refl n) .group st st' _ rfl (unhide HP0) (unhide HX)) ?_
    rintro e w1 ⟨rfl, p1, b1⟩; have HP1 := hide p1; have BB1 := hide b1; clear p1 b1
    go_wp2_with fail
    first | go_end0 | refine bodyPost_ret (results_none (by rfl) _ _ _) rfl ?_
    exact ⟨rfl, unhide HP1, unhide BB1⟩
  | false =>
  rw [if_neg (show ¬ kq toks st [40] = true by rw [c0]; exact Bool.false_ne_true)] at h
  have q2 : ((kindL toks st).toList == [40]) = false := c0
  clear c0
  cases c1 : kq toks st [110, 97, 109, 101] with
  | true =>
    rw [if_pos c1] at h
    have HX : Hid _ := h
    clear h
    have q3 : ((kindL toks st).toList == [110, 97, 109, 101]) = true := c1
    clear c1
    unfold Does
    go_enter Tryz.func115, Tryz.ntmps115
    go_wp2_with fail
    refine (kq_any (unhide HP0)).mono ?_
    rintro e w1 ⟨rfl, hw⟩; have hw := hw.symm; subst hw
    go_wp2_with fail
    refine Calls.mono (unhide IHH n (Nat.le_refl n) .nameOrCall st st' _ rfl (unhide HP0) (unhide HX)) ?_
    rintro e w1 ⟨rfl, p1, b1⟩; have HP1 := hide p1; have BB1 := hide b1; clear p1 b1
    go_wp2_with fail
    first | go_end0 | refine bodyPost_ret (results_none (by rfl) _ _ _) rfl ?_
    exact ⟨rfl, unhide HP1, unhide BB1⟩
  | false =>
  rw [if_neg (show ¬ kq toks st [110, 97, 109, 101] = true by rw [c1]; exact Bool.false_ne_true)] at h
  have q3 : ((kindL toks st).toList == [110, 97, 109, 101]) = false := c1
  clear c1
  have HX : Hid _ := h
  clear h
  unfold Does
  go_enter Tryz.func115, Tryz.ntmps115
  go_wp2_with fail
  refine (kq_any (unhide HP0)).mono ?_
  rintro e w1 ⟨rfl, hw⟩; have hw := hw.symm; subst hw
  go_wp2_with fail
  refine (needM_any (unhide HP0) (unhide HX)).mono ?_
  rintro e w1 ⟨rfl, p1, b1⟩; have HP1 := hide p1; have BB1 := hide b1; clear p1 b1
  go_wp2_with fail
  first | go_end0 | refine bodyPost_ret (results_none (by rfl) _ _ _) rfl ?_
  exact ⟨rfl, unhide HP1, unhide BB1⟩

set_option maxHeartbeats 1600000 in
theorem value_step {b : Nat} {tv : Value} {toks : List Tok} {n : Nat} (ih : ∀ m, m ≤ n → IH b tv toks m) {w : World} {st st' : PSt} (hP : PS b tv toks w st) (h : P toks (n + 1) .value st = some st') : Does 93 b tv toks w st' := by
  have IHH := hide ih
  have HP0 := hide hP
  have HE : Hid _ := h
  obtain ⟨nv0, i0, i1, i2, i3, i4, if0, iown, iblk⟩ := hP.cells
  have hfew := hP.few
  have hatt := hP.att
  clear hP ih i0 i2 i3 i4 if0 iown iblk
  rw [P] at h
  clear HE
  cases c0 : kq toks st [110, 97, 109, 101] with
  | true =>
    cases c1 : ((kindAtL toks st (st.at_ + 1)).toList == [61]) with
    | true =>
      rw [if_pos (by rw [c0, c1]; rfl)] at h
      have HX : Hid _ := h
      clear h
      have q0 : ((kindL toks st).toList == [110, 97, 109, 101]) = true := c0
      clear c0
      unfold Does
      go_enter Tryz.func93, Tryz.ntmps93
      go_wp2_with fail
      refine (kq_any (unhide HP0)).mono ?_
      rintro e w1 ⟨rfl, hw⟩; have hw := hw.symm; subst hw
      go_wp2_with fail
      refine (kindAt_any b tv toks _ st (unhide HP0) _ (by omega)).mono ?_
      rintro e w1 ⟨rfl, hw⟩; have hw := hw.symm; subst hw
      rw [show ((st.at_ : Int) + 1).toNat = st.at_ + 1 from by omega]
      go_wp2_with fail
      refine Calls.mono (unhide IHH n (Nat.le_refl n) .set st st' _ rfl (unhide HP0) (unhide HX)) ?_
      rintro e w1 ⟨rfl, p1, b1⟩; have HP1 := hide p1; have BB1 := hide b1; clear p1 b1
      go_wp2_with fail
      first | go_end0 | refine bodyPost_ret (results_none (by rfl) _ _ _) rfl ?_
      exact ⟨rfl, unhide HP1, unhide BB1⟩
    | false =>
      rw [if_neg (by rw [c0, c1]; exact Bool.false_ne_true)] at h
      have HX : Hid _ := h
      clear h
      have q0 : ((kindL toks st).toList == [110, 97, 109, 101]) = true := c0
      clear c0
      unfold Does
      go_enter Tryz.func93, Tryz.ntmps93
      go_wp2_with fail
      refine (kq_any (unhide HP0)).mono ?_
      rintro e w1 ⟨rfl, hw⟩; have hw := hw.symm; subst hw
      go_wp2_with fail
      refine (kindAt_any b tv toks _ st (unhide HP0) _ (by omega)).mono ?_
      rintro e w1 ⟨rfl, hw⟩; have hw := hw.symm; subst hw
      rw [show ((st.at_ : Int) + 1).toNat = st.at_ + 1 from by omega]
      go_wp2_with fail
      refine Calls.mono (unhide IHH n (Nat.le_refl n) .or st st' _ rfl (unhide HP0) (unhide HX)) ?_
      rintro e w1 ⟨rfl, p1, b1⟩; have HP1 := hide p1; have BB1 := hide b1; clear p1 b1
      go_wp2_with fail
      first | go_end0 | refine bodyPost_ret (results_none (by rfl) _ _ _) rfl ?_
      exact ⟨rfl, unhide HP1, unhide BB1⟩
  | false =>
    rw [if_neg (by rw [c0]; exact Bool.false_ne_true)] at h
    have HX : Hid _ := h
    clear h
    have q0 : ((kindL toks st).toList == [110, 97, 109, 101]) = false := c0
    clear c0
    unfold Does
    go_enter Tryz.func93, Tryz.ntmps93
    go_wp2_with fail
    refine (kq_any (unhide HP0)).mono ?_
    rintro e w1 ⟨rfl, hw⟩; have hw := hw.symm; subst hw
    go_wp2_with fail
    refine (kindAt_any b tv toks _ st (unhide HP0) _ (by omega)).mono ?_
    rintro e w1 ⟨rfl, hw⟩; have hw := hw.symm; subst hw
    rw [show ((st.at_ : Int) + 1).toNat = st.at_ + 1 from by omega]
    go_wp2_with fail
    refine Calls.mono (unhide IHH n (Nat.le_refl n) .or st st' _ rfl (unhide HP0) (unhide HX)) ?_
    rintro e w1 ⟨rfl, p1, b1⟩; have HP1 := hide p1; have BB1 := hide b1; clear p1 b1
    go_wp2_with fail
    first | go_end0 | refine bodyPost_ret (results_none (by rfl) _ _ _) rfl ?_
    exact ⟨rfl, unhide HP1, unhide BB1⟩

/-- All methods, at every bound. -/
theorem methods (b : Nat) (tv : Value) (toks : List Tok) (n : Nat) : ∀ m, m ≤ n → IH b tv toks m := by
  induction n with
  | zero =>
    intro m hm g st st' w _ _ h
    cases Nat.le_zero.1 hm
    cases h
  | succ n ih =>
    intro m hm
    rcases Nat.lt_or_ge m (n + 1) with hlt | hge
    · exact ih m (by omega)
    obtain rfl : m = n + 1 := by omega
    intro g st st' w hg hP h
    cases g with
    | program => exact program_step ih hP h
    | function => exact function_step ih hP h
    | params => exact params_step ih hP h
    | param => exact param_step ih hP h
    | statement => exact statement_step ih hP h
    | block => exact block_step ih hP h
    | emptyS => exact emptyS_step ih hP h
    | ifS => exact ifS_step ih hP h
    | whileS => exact whileS_step ih hP h
    | returnS => exact returnS_step ih hP h
    | localS => exact localS_step ih hP h
    | expr => exact expr_step ih hP h
    | condition => exact condition_step ih hP h
    | value => exact value_step ih hP h
    | set => exact set_step ih hP h
    | or => exact or_step ih hP h
    | and => exact and_step ih hP h
    | rel => exact rel_step ih hP h
    | sum => exact sum_step ih hP h
    | prod => exact prod_step ih hP h
    | single => exact single_step ih hP h
    | neg => exact neg_step ih hP h
    | group => exact group_step ih hP h
    | nameOrCall => exact nameOrCall_step ih hP h
    | values => exact values_step ih hP h
    | funcs => cases hg
    | paramsL => cases hg
    | stmts => cases hg
    | orL => cases hg
    | andL => cases hg
    | sumL => cases hg
    | prodL => cases hg
    | valuesL => cases hg

end Go.Proofs.YtdaneedflpfeaabGreatDoor
