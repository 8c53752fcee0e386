import Derived.Test.YtdaneedflpfeaabGreatDoorTwin
namespace Go.Proofs.YtdaneedflpfeaabGreatDoor
set_option maxRecDepth 100000
open Go.RowKit

set_option maxHeartbeats 1600000 in
theorem ifS_step {b : Nat} {tv : Value} {toks : List Tok} {n : Nat} (ih : ∀ m, m ≤ n → IH b tv toks m) {w : World} {st st' : PSt} (hP : PS b tv toks w st) (h : P toks (n + 1) .ifS st = some st') : Does 85 b tv toks w st' := by
  have IHH := hide ih
  have HP0 := hide hP
  have B0 := hide (Below.refl b w)
  clear hP ih
  rw [P] at h
  simp only [Option.bind_eq_bind, Option.bind_eq_some_iff] at h
  obtain ⟨s1, h2, s3, h4, s5, h6, s7, h8, h9⟩ := h
  have H10 : Hid _ := h2
  clear h2
  have H11 : Hid _ := h4
  clear h4
  have H12 : Hid _ := h6
  clear h6
  have H13 : Hid _ := h8
  clear h8
  have H14 : Hid _ := h9
  clear h9
  unfold Does
  go_enter Tryz.func85, Tryz.ntmps85
  go_wp2_with fail
  refine (openM_any (unhide HP0) (unhide H10)).mono ?_
  rintro e w15 ⟨rfl, p1, b1⟩; have HP16 := hide p1; have BB17 := hide ((unhide B0).trans b1); clear p1 b1
  go_wp2_with fail
  refine (needM_any (unhide HP16) (unhide H11)).mono ?_
  rintro e w18 ⟨rfl, p1, b1⟩; have HP19 := hide p1; have BB20 := hide ((unhide BB17).trans b1); clear p1 b1
  go_wp2_with fail
  refine Calls.mono (unhide IHH n (Nat.le_refl n) .condition s3 s5 _ rfl (unhide HP19) (unhide H12)) ?_
  rintro e w21 ⟨rfl, p1, b1⟩; have HP22 := hide p1; have BB23 := hide ((unhide BB20).trans b1); clear p1 b1
  go_wp2_with fail
  refine Calls.mono (unhide IHH n (Nat.le_refl n) .statement s5 s7 _ rfl (unhide HP22) (unhide H13)) ?_
  rintro e w24 ⟨rfl, p1, b1⟩; have HP25 := hide p1; have BB26 := hide ((unhide BB23).trans b1); clear p1 b1
  go_wp2_with fail
  refine (kq_any (unhide HP25)).mono ?_
  rintro e w1 ⟨rfl, hw⟩; have hw := hw.symm; subst hw
  cases c27 : kq toks s7 [101, 108, 115, 101] with
  | true =>
    have X28 := (if_pos c27).symm.trans (unhide H14)
    have q29 : ((kindL toks s7).toList == [101, 108, 115, 101]) = true := c27
    clear c27 H14
    simp only [Option.bind_eq_some_iff] at X28
    obtain ⟨s30, h31, s32, h33, h34⟩ := X28
    have H35 : Hid _ := h31
    clear h31
    have H36 : Hid _ := h33
    clear h33
    have H37 : Hid _ := h34
    clear h34
    go_wp2_with fail
    refine (takeM_any (unhide HP25) (unhide H35)).mono ?_
    rintro e w38 ⟨rfl, p1, b1⟩; have HP39 := hide p1; have BB40 := hide ((unhide BB26).trans b1); clear p1 b1
    go_wp2_with fail
    refine Calls.mono (unhide IHH n (Nat.le_refl n) .statement s30 s32 _ rfl (unhide HP39) (unhide H36)) ?_
    rintro e w41 ⟨rfl, p1, b1⟩; have HP42 := hide p1; have BB43 := hide ((unhide BB40).trans b1); clear p1 b1
    go_wp2_with fail
    refine (closeM_any (unhide HP42) (unhide H37)).mono ?_
    rintro e w44 ⟨rfl, p1, b1⟩; have HP45 := hide p1; have BB46 := hide ((unhide BB43).trans b1); clear p1 b1
    go_wp2_with fail
    first | go_end0 | refine bodyPost_ret (results_none (by rfl) _ _ _) rfl ?_
    exact ⟨rfl, unhide HP45, unhide BB46⟩
  | false =>
    have X47 := (if_neg (show ¬ (kq toks s7 [101, 108, 115, 101]) = true by rw [c27]; exact Bool.false_ne_true)).symm.trans (unhide H14)
    have q48 : ((kindL toks s7).toList == [101, 108, 115, 101]) = false := c27
    clear c27 H14
    simp only [Option.bind_eq_some_iff] at X47
    obtain ⟨s49, h50, h51⟩ := X47
    have H52 : Hid _ := h50
    clear h50
    have H53 : Hid _ := h51
    clear h51
    have e54 := Option.some.inj (unhide H52)
    clear H52
    subst e54
    go_wp2_with fail
    refine (closeM_any (unhide HP25) (unhide H53)).mono ?_
    rintro e w55 ⟨rfl, p1, b1⟩; have HP56 := hide p1; have BB57 := hide ((unhide BB26).trans b1); clear p1 b1
    go_wp2_with fail
    first | go_end0 | refine bodyPost_ret (results_none (by rfl) _ _ _) rfl ?_
    exact ⟨rfl, unhide HP56, unhide BB57⟩

set_option maxHeartbeats 1600000 in
theorem returnS_step {b : Nat} {tv : Value} {toks : List Tok} {n : Nat} (ih : ∀ m, m ≤ n → IH b tv toks m) {w : World} {st st' : PSt} (hP : PS b tv toks w st) (h : P toks (n + 1) .returnS st = some st') : Does 87 b tv toks w st' := by
  have IHH := hide ih
  have HP0 := hide hP
  have B0 := hide (Below.refl b w)
  clear hP ih
  rw [P] at h
  simp only [Option.bind_eq_bind, Option.bind_eq_some_iff] at h
  obtain ⟨s1, h2, s3, h4, h5⟩ := h
  have H6 : Hid _ := h2
  clear h2
  have H7 : Hid _ := h4
  clear h4
  have H8 : Hid _ := h5
  clear h5
  unfold Does
  go_enter Tryz.func87, Tryz.ntmps87
  go_wp2_with fail
  refine (openM_any (unhide HP0) (unhide H6)).mono ?_
  rintro e w9 ⟨rfl, p1, b1⟩; have HP10 := hide p1; have BB11 := hide ((unhide B0).trans b1); clear p1 b1
  go_wp2_with fail
  refine (needM_any (unhide HP10) (unhide H7)).mono ?_
  rintro e w12 ⟨rfl, p1, b1⟩; have HP13 := hide p1; have BB14 := hide ((unhide BB11).trans b1); clear p1 b1
  go_wp2_with fail
  refine (kq_any (unhide HP13)).mono ?_
  rintro e w1 ⟨rfl, hw⟩; have hw := hw.symm; subst hw
  cases c15 : kq toks s3 [59] with
  | true =>
    have X16 := (if_pos c15).symm.trans (unhide H8)
    have q17 : ((kindL toks s3).toList == [59]) = true := c15
    clear c15 H8
    simp only [Option.bind_eq_some_iff] at X16
    obtain ⟨s18, h19, s20, h21, h22⟩ := X16
    have H23 : Hid _ := h19
    clear h19
    have H24 : Hid _ := h21
    clear h21
    have H25 : Hid _ := h22
    clear h22
    have e26 := Option.some.inj (unhide H23)
    clear H23
    subst e26
    go_wp2_with fail
    refine (needM_any (unhide HP13) (unhide H24)).mono ?_
    rintro e w27 ⟨rfl, p1, b1⟩; have HP28 := hide p1; have BB29 := hide ((unhide BB14).trans b1); clear p1 b1
    go_wp2_with fail
    refine (closeM_any (unhide HP28) (unhide H25)).mono ?_
    rintro e w30 ⟨rfl, p1, b1⟩; have HP31 := hide p1; have BB32 := hide ((unhide BB29).trans b1); clear p1 b1
    go_wp2_with fail
    first | go_end0 | refine bodyPost_ret (results_none (by rfl) _ _ _) rfl ?_
    exact ⟨rfl, unhide HP31, unhide BB32⟩
  | false =>
    have X33 := (if_neg (show ¬ (kq toks s3 [59]) = true by rw [c15]; exact Bool.false_ne_true)).symm.trans (unhide H8)
    have q34 : ((kindL toks s3).toList == [59]) = false := c15
    clear c15 H8
    simp only [Option.bind_eq_some_iff] at X33
    obtain ⟨s35, h36, s37, h38, h39⟩ := X33
    have H40 : Hid _ := h36
    clear h36
    have H41 : Hid _ := h38
    clear h38
    have H42 : Hid _ := h39
    clear h39
    go_wp2_with fail
    refine Calls.mono (unhide IHH n (Nat.le_refl n) .value s3 s35 _ rfl (unhide HP13) (unhide H40)) ?_
    rintro e w43 ⟨rfl, p1, b1⟩; have HP44 := hide p1; have BB45 := hide ((unhide BB14).trans b1); clear p1 b1
    go_wp2_with fail
    refine (needM_any (unhide HP44) (unhide H41)).mono ?_
    rintro e w46 ⟨rfl, p1, b1⟩; have HP47 := hide p1; have BB48 := hide ((unhide BB45).trans b1); clear p1 b1
    go_wp2_with fail
    refine (closeM_any (unhide HP47) (unhide H42)).mono ?_
    rintro e w49 ⟨rfl, p1, b1⟩; have HP50 := hide p1; have BB51 := hide ((unhide BB48).trans b1); clear p1 b1
    go_wp2_with fail
    first | go_end0 | refine bodyPost_ret (results_none (by rfl) _ _ _) rfl ?_
    exact ⟨rfl, unhide HP50, unhide BB51⟩

set_option maxHeartbeats 1600000 in
theorem localS_step {b : Nat} {tv : Value} {toks : List Tok} {n : Nat} (ih : ∀ m, m ≤ n → IH b tv toks m) {w : World} {st st' : PSt} (hP : PS b tv toks w st) (h : P toks (n + 1) .localS st = some st') : Does 88 b tv toks w st' := by
  have IHH := hide ih
  have HP0 := hide hP
  have B0 := hide (Below.refl b w)
  clear hP ih
  rw [P] at h
  simp only [Option.bind_eq_bind, Option.bind_eq_some_iff] at h
  obtain ⟨s1, h2, s3, h4, s5, h6, h7⟩ := h
  have H8 : Hid _ := h2
  clear h2
  have H9 : Hid _ := h4
  clear h4
  have H10 : Hid _ := h6
  clear h6
  have H11 : Hid _ := h7
  clear h7
  unfold Does
  go_enter Tryz.func88, Tryz.ntmps88
  go_wp2_with fail
  refine (openM_any (unhide HP0) (unhide H8)).mono ?_
  rintro e w12 ⟨rfl, p1, b1⟩; have HP13 := hide p1; have BB14 := hide ((unhide B0).trans b1); clear p1 b1
  go_wp2_with fail
  refine (needM_any (unhide HP13) (unhide H9)).mono ?_
  rintro e w15 ⟨rfl, p1, b1⟩; have HP16 := hide p1; have BB17 := hide ((unhide BB14).trans b1); clear p1 b1
  go_wp2_with fail
  refine (needM_any (unhide HP16) (unhide H10)).mono ?_
  rintro e w18 ⟨rfl, p1, b1⟩; have HP19 := hide p1; have BB20 := hide ((unhide BB17).trans b1); clear p1 b1
  go_wp2_with fail
  refine (kq_any (unhide HP19)).mono ?_
  rintro e w1 ⟨rfl, hw⟩; have hw := hw.symm; subst hw
  cases c21 : kq toks s5 [61] with
  | true =>
    have X22 := (if_pos c21).symm.trans (unhide H11)
    have q23 : ((kindL toks s5).toList == [61]) = true := c21
    clear c21 H11
    simp only [Option.bind_eq_some_iff] at X22
    obtain ⟨s24, h25, s26, h27, s28, h29, h30⟩ := X22
    have H31 : Hid _ := h25
    clear h25
    have H32 : Hid _ := h27
    clear h27
    have H33 : Hid _ := h29
    clear h29
    have H34 : Hid _ := h30
    clear h30
    go_wp2_with fail
    refine (takeM_any (unhide HP19) (unhide H31)).mono ?_
    rintro e w35 ⟨rfl, p1, b1⟩; have HP36 := hide p1; have BB37 := hide ((unhide BB20).trans b1); clear p1 b1
    go_wp2_with fail
    refine Calls.mono (unhide IHH n (Nat.le_refl n) .value s24 s26 _ rfl (unhide HP36) (unhide H32)) ?_
    rintro e w38 ⟨rfl, p1, b1⟩; have HP39 := hide p1; have BB40 := hide ((unhide BB37).trans b1); clear p1 b1
    go_wp2_with fail
    refine (needM_any (unhide HP39) (unhide H33)).mono ?_
    rintro e w41 ⟨rfl, p1, b1⟩; have HP42 := hide p1; have BB43 := hide ((unhide BB40).trans b1); clear p1 b1
    go_wp2_with fail
    refine (closeM_any (unhide HP42) (unhide H34)).mono ?_
    rintro e w44 ⟨rfl, p1, b1⟩; have HP45 := hide p1; have BB46 := hide ((unhide BB43).trans b1); clear p1 b1
    go_wp2_with fail
    first | go_end0 | refine bodyPost_ret (results_none (by rfl) _ _ _) rfl ?_
    exact ⟨rfl, unhide HP45, unhide BB46⟩
  | false =>
    have X47 := (if_neg (show ¬ (kq toks s5 [61]) = true by rw [c21]; exact Bool.false_ne_true)).symm.trans (unhide H11)
    have q48 : ((kindL toks s5).toList == [61]) = false := c21
    clear c21 H11
    simp only [Option.bind_eq_some_iff] at X47
    obtain ⟨s49, h50, s51, h52, h53⟩ := X47
    have H54 : Hid _ := h50
    clear h50
    have H55 : Hid _ := h52
    clear h52
    have H56 : Hid _ := h53
    clear h53
    have e57 := Option.some.inj (unhide H54)
    clear H54
    subst e57
    go_wp2_with fail
    refine (needM_any (unhide HP19) (unhide H55)).mono ?_
    rintro e w58 ⟨rfl, p1, b1⟩; have HP59 := hide p1; have BB60 := hide ((unhide BB20).trans b1); clear p1 b1
    go_wp2_with fail
    refine (closeM_any (unhide HP59) (unhide H56)).mono ?_
    rintro e w61 ⟨rfl, p1, b1⟩; have HP62 := hide p1; have BB63 := hide ((unhide BB60).trans b1); clear p1 b1
    go_wp2_with fail
    first | go_end0 | refine bodyPost_ret (results_none (by rfl) _ _ _) rfl ?_
    exact ⟨rfl, unhide HP62, unhide BB63⟩

end Go.Proofs.YtdaneedflpfeaabGreatDoor

namespace Go.Proofs.YtdaneedflpfeaabGreatDoor
set_option maxRecDepth 100000
open Go.RowKit

set_option maxHeartbeats 1600000 in
theorem or_step {b : Nat} {tv : Value} {toks : List Tok} {n : Nat} (ih : ∀ m, m ≤ n → IH b tv toks m) {w : World} {st st' : PSt} (hP : PS b tv toks w st) (h : P toks (n + 1) .or st = some st') : Does 100 b tv toks w st' := by
  have IHH := hide ih
  have HP0 := hide hP
  have B0 := hide (Below.refl b w)
  obtain ⟨nv0, i0, i1, i2, i3, i4, if0, iown, iblk⟩ := hP.cells
  obtain ⟨a0, cap0, hv0⟩ := slice_form iown
  subst hv0
  clear i0 i1 i2 i4 if0 iown iblk
  clear hP ih
  rw [P] at h
  simp only [Option.bind_eq_bind, Option.bind_eq_some_iff] at h
  obtain ⟨s1, h2, h3⟩ := h
  have H4 : Hid _ := h2
  clear h2
  have H5 : Hid _ := h3
  clear h3
  unfold Does
  go_enter Tryz.func100, Tryz.ntmps100
  go_wp2_with fail
  refine Calls.mono (unhide IHH n (Nat.le_refl n) .and st s1 _ rfl (unhide HP0) (unhide H4)) ?_
  rintro e w6 ⟨rfl, p1, b1⟩; have HP7 := hide p1; have BB8 := hide ((unhide B0).trans b1); clear p1 b1
  go_wp2_with fail
  refine (kq_any (unhide HP7)).mono ?_
  rintro e w1 ⟨rfl, hw⟩; have hw := hw.symm; subst hw
  cases c9 : kq toks s1 [124, 124] with
  | true =>
    have X10 := (if_pos c9).symm.trans (unhide H5)
    have q11 : ((kindL toks s1).toList == [124, 124]) = true := c9
    clear c9 H5
    simp only [Option.bind_eq_some_iff] at X10
    obtain ⟨s12, h13, s14, h15, h16⟩ := X10
    have H17 : Hid _ := h13
    clear h13
    have H18 : Hid _ := h15
    clear h15
    have H19 : Hid _ := h16
    clear h16
    go_wp2_with fail
    refine (aroundM_any (unhide HP7) (unhide H17)).mono ?_
    rintro e w20 ⟨rfl, p1, b1⟩; have HP21 := hide p1; have BB22 := hide ((unhide BB8).trans b1); clear p1 b1
    go_wp2_with fail
    go_loopg [] n (fun m wr => ∃ sk, m ≤ n ∧ PS b tv toks wr sk ∧ P toks m .orL sk = some s14 ∧ Below b w wr)
    case atStart => exact ⟨s12, Nat.le_refl _, unhide HP21, unhide H18, unhide BB22⟩
    case round =>
      obtain ⟨sk, hm, hPk, hE, hBk⟩ := hrel
      cases gk with
      | zero => cases hE
      | succ m =>
      have HPk := hide hPk
      have HBk := hide hBk
      have HEk : Hid _ := hE
      clear hPk hBk hE
      cases cq : kq toks sk [124, 124] with
      | true =>
        have q : ((kindL toks sk).toList == [124, 124]) = true := cq
        go_wp2_with fail
        refine (kq_any (unhide HPk)).mono ?_
        rintro e w1 ⟨rfl, hw⟩; have hw := hw.symm; subst hw
        have X23 := (if_pos cq).symm.trans (unhide HEk)
        clear HEk
        simp only [Option.bind_eq_bind, Option.bind_eq_some_iff] at X23
        obtain ⟨s24, h25, s26, h27, h28⟩ := X23
        have H29 : Hid _ := h25
        clear h25
        have H30 : Hid _ := h27
        clear h27
        have H31 : Hid _ := h28
        clear h28
        go_wp2_with fail
        refine (takeM_any (unhide HPk) (unhide H29)).mono ?_
        rintro e w32 ⟨rfl, p1, b1⟩; have HP33 := hide p1; have BB34 := hide ((unhide HBk).trans b1); clear p1 b1
        go_wp2_with fail
        refine Calls.mono (unhide IHH m (by omega) .and s24 s26 _ rfl (unhide HP33) (unhide H30)) ?_
        rintro e w35 ⟨rfl, p1, b1⟩; have HP36 := hide p1; have BB37 := hide ((unhide BB34).trans b1); clear p1 b1
        go_wp2_with fail
        go_roundg m
        case measure => exact Nat.lt_succ_self m
        case rel => exact ⟨s26, by omega, unhide HP36, unhide H31, unhide BB37⟩
      | false =>
        have q : ((kindL toks sk).toList == [124, 124]) = false := cq
        have X38 := (if_neg (show ¬ kq toks sk [124, 124] = true by rw [cq]; exact Bool.false_ne_true)).symm.trans (unhide HEk)
        clear HEk
        have e39 := Option.some.inj X38
        clear X38
        subst e39
        clear cq
        go_wp2_with fail
        refine (kq_any (unhide HPk)).mono ?_
        rintro e w1 ⟨rfl, hw⟩; have hw := hw.symm; subst hw
        go_wp2_with fail
        refine (closeM_any (unhide HPk) (unhide H19)).mono ?_
        rintro e w40 ⟨rfl, p1, b1⟩; have HP41 := hide p1; have BB42 := hide ((unhide HBk).trans b1); clear p1 b1
        go_wp2_with fail
        first | go_end0 | refine bodyPost_ret (results_none (by rfl) _ _ _) rfl ?_
        exact ⟨rfl, unhide HP41, unhide BB42⟩
  | false =>
    have X43 := (if_neg (show ¬ (kq toks s1 [124, 124]) = true by rw [c9]; exact Bool.false_ne_true)).symm.trans (unhide H5)
    have q44 : ((kindL toks s1).toList == [124, 124]) = false := c9
    clear c9 H5
    have e45 := Option.some.inj X43
    clear X43
    subst e45
    go_wp2_with fail
    first | go_end0 | refine bodyPost_ret (results_none (by rfl) _ _ _) rfl ?_
    exact ⟨rfl, unhide HP7, unhide BB8⟩

set_option maxHeartbeats 1600000 in
theorem and_step {b : Nat} {tv : Value} {toks : List Tok} {n : Nat} (ih : ∀ m, m ≤ n → IH b tv toks m) {w : World} {st st' : PSt} (hP : PS b tv toks w st) (h : P toks (n + 1) .and st = some st') : Does 106 b tv toks w st' := by
  have IHH := hide ih
  have HP0 := hide hP
  have B0 := hide (Below.refl b w)
  obtain ⟨nv0, i0, i1, i2, i3, i4, if0, iown, iblk⟩ := hP.cells
  obtain ⟨a0, cap0, hv0⟩ := slice_form iown
  subst hv0
  clear i0 i1 i2 i4 if0 iown iblk
  clear hP ih
  rw [P] at h
  simp only [Option.bind_eq_bind, Option.bind_eq_some_iff] at h
  obtain ⟨s1, h2, h3⟩ := h
  have H4 : Hid _ := h2
  clear h2
  have H5 : Hid _ := h3
  clear h3
  unfold Does
  go_enter Tryz.func106, Tryz.ntmps106
  go_wp2_with fail
  refine Calls.mono (unhide IHH n (Nat.le_refl n) .rel st s1 _ rfl (unhide HP0) (unhide H4)) ?_
  rintro e w6 ⟨rfl, p1, b1⟩; have HP7 := hide p1; have BB8 := hide ((unhide B0).trans b1); clear p1 b1
  go_wp2_with fail
  refine (kq_any (unhide HP7)).mono ?_
  rintro e w1 ⟨rfl, hw⟩; have hw := hw.symm; subst hw
  cases c9 : kq toks s1 [38, 38] with
  | true =>
    have X10 := (if_pos c9).symm.trans (unhide H5)
    have q11 : ((kindL toks s1).toList == [38, 38]) = true := c9
    clear c9 H5
    simp only [Option.bind_eq_some_iff] at X10
    obtain ⟨s12, h13, s14, h15, h16⟩ := X10
    have H17 : Hid _ := h13
    clear h13
    have H18 : Hid _ := h15
    clear h15
    have H19 : Hid _ := h16
    clear h16
    go_wp2_with fail
    refine (aroundM_any (unhide HP7) (unhide H17)).mono ?_
    rintro e w20 ⟨rfl, p1, b1⟩; have HP21 := hide p1; have BB22 := hide ((unhide BB8).trans b1); clear p1 b1
    go_wp2_with fail
    go_loopg [] n (fun m wr => ∃ sk, m ≤ n ∧ PS b tv toks wr sk ∧ P toks m .andL sk = some s14 ∧ Below b w wr)
    case atStart => exact ⟨s12, Nat.le_refl _, unhide HP21, unhide H18, unhide BB22⟩
    case round =>
      obtain ⟨sk, hm, hPk, hE, hBk⟩ := hrel
      cases gk with
      | zero => cases hE
      | succ m =>
      have HPk := hide hPk
      have HBk := hide hBk
      have HEk : Hid _ := hE
      clear hPk hBk hE
      cases cq : kq toks sk [38, 38] with
      | true =>
        have q : ((kindL toks sk).toList == [38, 38]) = true := cq
        go_wp2_with fail
        refine (kq_any (unhide HPk)).mono ?_
        rintro e w1 ⟨rfl, hw⟩; have hw := hw.symm; subst hw
        have X23 := (if_pos cq).symm.trans (unhide HEk)
        clear HEk
        simp only [Option.bind_eq_bind, Option.bind_eq_some_iff] at X23
        obtain ⟨s24, h25, s26, h27, h28⟩ := X23
        have H29 : Hid _ := h25
        clear h25
        have H30 : Hid _ := h27
        clear h27
        have H31 : Hid _ := h28
        clear h28
        go_wp2_with fail
        refine (takeM_any (unhide HPk) (unhide H29)).mono ?_
        rintro e w32 ⟨rfl, p1, b1⟩; have HP33 := hide p1; have BB34 := hide ((unhide HBk).trans b1); clear p1 b1
        go_wp2_with fail
        refine Calls.mono (unhide IHH m (by omega) .rel s24 s26 _ rfl (unhide HP33) (unhide H30)) ?_
        rintro e w35 ⟨rfl, p1, b1⟩; have HP36 := hide p1; have BB37 := hide ((unhide BB34).trans b1); clear p1 b1
        go_wp2_with fail
        go_roundg m
        case measure => exact Nat.lt_succ_self m
        case rel => exact ⟨s26, by omega, unhide HP36, unhide H31, unhide BB37⟩
      | false =>
        have q : ((kindL toks sk).toList == [38, 38]) = false := cq
        have X38 := (if_neg (show ¬ kq toks sk [38, 38] = true by rw [cq]; exact Bool.false_ne_true)).symm.trans (unhide HEk)
        clear HEk
        have e39 := Option.some.inj X38
        clear X38
        subst e39
        clear cq
        go_wp2_with fail
        refine (kq_any (unhide HPk)).mono ?_
        rintro e w1 ⟨rfl, hw⟩; have hw := hw.symm; subst hw
        go_wp2_with fail
        refine (closeM_any (unhide HPk) (unhide H19)).mono ?_
        rintro e w40 ⟨rfl, p1, b1⟩; have HP41 := hide p1; have BB42 := hide ((unhide HBk).trans b1); clear p1 b1
        go_wp2_with fail
        first | go_end0 | refine bodyPost_ret (results_none (by rfl) _ _ _) rfl ?_
        exact ⟨rfl, unhide HP41, unhide BB42⟩
  | false =>
    have X43 := (if_neg (show ¬ (kq toks s1 [38, 38]) = true by rw [c9]; exact Bool.false_ne_true)).symm.trans (unhide H5)
    have q44 : ((kindL toks s1).toList == [38, 38]) = false := c9
    clear c9 H5
    have e45 := Option.some.inj X43
    clear X43
    subst e45
    go_wp2_with fail
    first | go_end0 | refine bodyPost_ret (results_none (by rfl) _ _ _) rfl ?_
    exact ⟨rfl, unhide HP7, unhide BB8⟩

set_option maxHeartbeats 1600000 in
theorem rel_step {b : Nat} {tv : Value} {toks : List Tok} {n : Nat} (ih : ∀ m, m ≤ n → IH b tv toks m) {w : World} {st st' : PSt} (hP : PS b tv toks w st) (h : P toks (n + 1) .rel st = some st') : Does 110 b tv toks w st' := by
  have IHH := hide ih
  have HP0 := hide hP
  have B0 := hide (Below.refl b w)
  obtain ⟨nv0, i0, i1, i2, i3, i4, if0, iown, iblk⟩ := hP.cells
  obtain ⟨a0, cap0, hv0⟩ := slice_form iown
  subst hv0
  clear i0 i1 i2 i4 if0 iown iblk
  clear hP ih
  rw [P] at h
  simp only [Option.bind_eq_bind, Option.bind_eq_some_iff] at h
  obtain ⟨s1, h2, h3⟩ := h
  have H4 : Hid _ := h2
  clear h2
  have H5 : Hid _ := h3
  clear h3
  unfold Does
  go_enter Tryz.func110, Tryz.ntmps110
  go_wp2_with fail
  refine Calls.mono (unhide IHH n (Nat.le_refl n) .sum st s1 _ rfl (unhide HP0) (unhide H4)) ?_
  rintro e w6 ⟨rfl, p1, b1⟩; have HP7 := hide p1; have BB8 := hide ((unhide B0).trans b1); clear p1 b1
  go_wp2_with fail
  refine (kq_any (unhide HP7)).mono ?_
  rintro e w1 ⟨rfl, hw⟩; have hw := hw.symm; subst hw
  go_wp2_with fail
  refine (isRelSign_any _ _).mono ?_
  rintro e w1 ⟨rfl, hw⟩; have hw := hw.symm; subst hw
  cases c9 : relB (kindL toks s1).toList with
  | true =>
    have X10 := (if_pos c9).symm.trans (unhide H5)
    have q11 : relB (kindL toks s1).toList = true := c9
    clear c9 H5
    simp only [Option.bind_eq_some_iff] at X10
    obtain ⟨s12, h13, s14, h15, s16, h17, h18⟩ := X10
    have H19 : Hid _ := h13
    clear h13
    have H20 : Hid _ := h15
    clear h15
    have H21 : Hid _ := h17
    clear h17
    have H22 : Hid _ := h18
    clear h18
    go_wp2_with fail
    refine (aroundM_any (unhide HP7) (unhide H19)).mono ?_
    rintro e w23 ⟨rfl, p1, b1⟩; have HP24 := hide p1; have BB25 := hide ((unhide BB8).trans b1); clear p1 b1
    go_wp2_with fail
    refine (takeM_any (unhide HP24) (unhide H20)).mono ?_
    rintro e w26 ⟨rfl, p1, b1⟩; have HP27 := hide p1; have BB28 := hide ((unhide BB25).trans b1); clear p1 b1
    go_wp2_with fail
    refine Calls.mono (unhide IHH n (Nat.le_refl n) .sum s14 s16 _ rfl (unhide HP27) (unhide H21)) ?_
    rintro e w29 ⟨rfl, p1, b1⟩; have HP30 := hide p1; have BB31 := hide ((unhide BB28).trans b1); clear p1 b1
    go_wp2_with fail
    refine (closeM_any (unhide HP30) (unhide H22)).mono ?_
    rintro e w32 ⟨rfl, p1, b1⟩; have HP33 := hide p1; have BB34 := hide ((unhide BB31).trans b1); clear p1 b1
    go_wp2_with fail
    first | go_end0 | refine bodyPost_ret (results_none (by rfl) _ _ _) rfl ?_
    exact ⟨rfl, unhide HP33, unhide BB34⟩
  | false =>
    have X35 := (if_neg (show ¬ (relB (kindL toks s1).toList) = true by rw [c9]; exact Bool.false_ne_true)).symm.trans (unhide H5)
    have q36 : relB (kindL toks s1).toList = false := c9
    clear c9 H5
    have e37 := Option.some.inj X35
    clear X35
    subst e37
    go_wp2_with fail
    first | go_end0 | refine bodyPost_ret (results_none (by rfl) _ _ _) rfl ?_
    exact ⟨rfl, unhide HP7, unhide BB8⟩

end Go.Proofs.YtdaneedflpfeaabGreatDoor
