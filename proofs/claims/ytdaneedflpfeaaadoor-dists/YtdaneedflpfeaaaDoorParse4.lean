import Derived.Test.YtdaneedflpfeaaaDoorTwin2
namespace Go.Proofs.YtdaneedflpfeaaaDoor
set_option maxRecDepth 100000
open Go.RowKit

set_option maxHeartbeats 1600000 in
theorem or_step {b : Nat} {tv : Value} {toks : List Tok} {n : Nat} (ih : ∀ m, m ≤ n → IH b tv toks m) {w : World} {st st' : PSt} (hP : PS b tv toks w st) (h : P toks (n + 1) .or st = some st') : Does 90 b tv toks w st' := by
  have IHH := hide ih
  have HP0 := hide hP
  have B0 := hide (Below.refl b w)
  obtain ⟨nv0, i0, i1, i2, i3, i4, if0, iown, iblk⟩ := hP.cells
  obtain ⟨a0, cap0, hv0⟩ := slice_form iown
  subst hv0
  clear i0 i1 i2 i4 if0 iown iblk
  clear hP ih
  rw [P] at h
  simp only [Option.bind_eq_bind, Option.bind_eq_some_iff] at h
  obtain ⟨s1, h2, h3⟩ := h
  have H4 : Hid _ := h2
  clear h2
  have H5 : Hid _ := h3
  clear h3
  unfold Does
  go_enter Tryd.func90, Tryd.ntmps90
  go_wp2_with fail
  refine Calls.mono (unhide IHH n (Nat.le_refl n) .and st s1 _ rfl (unhide HP0) (unhide H4)) ?_
  rintro e w6 ⟨rfl, p1, b1⟩; have HP7 := hide p1; have BB8 := hide ((unhide B0).trans b1); clear p1 b1
  go_wp2_with fail
  refine (kq_any (unhide HP7)).mono ?_
  rintro e w1 ⟨rfl, hw⟩; have hw := hw.symm; subst hw
  cases c9 : kq toks s1 [124, 124] with
  | true =>
    have X10 := (if_pos c9).symm.trans (unhide H5)
    have q11 : ((kindL toks s1).toList == [124, 124]) = true := c9
    clear c9 H5
    simp only [Option.bind_eq_some_iff] at X10
    obtain ⟨s12, h13, s14, h15, h16⟩ := X10
    have H17 : Hid _ := h13
    clear h13
    have H18 : Hid _ := h15
    clear h15
    have H19 : Hid _ := h16
    clear h16
    go_wp2_with fail
    refine (aroundM_any (unhide HP7) (unhide H17)).mono ?_
    rintro e w20 ⟨rfl, p1, b1⟩; have HP21 := hide p1; have BB22 := hide ((unhide BB8).trans b1); clear p1 b1
    go_wp2_with fail
    go_loopg [] n (fun m wr => ∃ sk, m ≤ n ∧ PS b tv toks wr sk ∧ P toks m .orL sk = some s14 ∧ Below b w wr)
    case atStart => exact ⟨s12, Nat.le_refl _, unhide HP21, unhide H18, unhide BB22⟩
    case round =>
      obtain ⟨sk, hm, hPk, hE, hBk⟩ := hrel
      cases gk with
      | zero => cases hE
      | succ m =>
      have HPk := hide hPk
      have HBk := hide hBk
      have HEk : Hid _ := hE
      clear hPk hBk hE
      cases cq : kq toks sk [124, 124] with
      | true =>
        have q : ((kindL toks sk).toList == [124, 124]) = true := cq
        go_wp2_with fail
        refine (kq_any (unhide HPk)).mono ?_
        rintro e w1 ⟨rfl, hw⟩; have hw := hw.symm; subst hw
        have X23 := (if_pos cq).symm.trans (unhide HEk)
        clear HEk
        simp only [Option.bind_eq_bind, Option.bind_eq_some_iff] at X23
        obtain ⟨s24, h25, s26, h27, h28⟩ := X23
        have H29 : Hid _ := h25
        clear h25
        have H30 : Hid _ := h27
        clear h27
        have H31 : Hid _ := h28
        clear h28
        go_wp2_with fail
        refine (takeM_any (unhide HPk) (unhide H29)).mono ?_
        rintro e w32 ⟨rfl, p1, b1⟩; have HP33 := hide p1; have BB34 := hide ((unhide HBk).trans b1); clear p1 b1
        go_wp2_with fail
        refine Calls.mono (unhide IHH m (by omega) .and s24 s26 _ rfl (unhide HP33) (unhide H30)) ?_
        rintro e w35 ⟨rfl, p1, b1⟩; have HP36 := hide p1; have BB37 := hide ((unhide BB34).trans b1); clear p1 b1
        go_wp2_with fail
        go_roundg m
        case measure => exact Nat.lt_succ_self m
        case rel => exact ⟨s26, by omega, unhide HP36, unhide H31, unhide BB37⟩
      | false =>
        have q : ((kindL toks sk).toList == [124, 124]) = false := cq
        have X38 := (if_neg (show ¬ kq toks sk [124, 124] = true by rw [cq]; exact Bool.false_ne_true)).symm.trans (unhide HEk)
        clear HEk
        have e39 := Option.some.inj X38
        clear X38
        subst e39
        clear cq
        go_wp2_with fail
        refine (kq_any (unhide HPk)).mono ?_
        rintro e w1 ⟨rfl, hw⟩; have hw := hw.symm; subst hw
        go_wp2_with fail
        refine (closeM_any (unhide HPk) (unhide H19)).mono ?_
        rintro e w40 ⟨rfl, p1, b1⟩; have HP41 := hide p1; have BB42 := hide ((unhide HBk).trans b1); clear p1 b1
        go_wp2_with fail
        first | go_end0 | refine bodyPost_ret (results_none (by rfl) _ _ _) rfl ?_
        exact ⟨rfl, unhide HP41, unhide BB42⟩
  | false =>
    have X43 := (if_neg (show ¬ (kq toks s1 [124, 124]) = true by rw [c9]; exact Bool.false_ne_true)).symm.trans (unhide H5)
    have q44 : ((kindL toks s1).toList == [124, 124]) = false := c9
    clear c9 H5
    have e45 := Option.some.inj X43
    clear X43
    subst e45
    go_wp2_with fail
    first | go_end0 | refine bodyPost_ret (results_none (by rfl) _ _ _) rfl ?_
    exact ⟨rfl, unhide HP7, unhide BB8⟩

set_option maxHeartbeats 1600000 in
theorem and_step {b : Nat} {tv : Value} {toks : List Tok} {n : Nat} (ih : ∀ m, m ≤ n → IH b tv toks m) {w : World} {st st' : PSt} (hP : PS b tv toks w st) (h : P toks (n + 1) .and st = some st') : Does 92 b tv toks w st' := by
  have IHH := hide ih
  have HP0 := hide hP
  have B0 := hide (Below.refl b w)
  obtain ⟨nv0, i0, i1, i2, i3, i4, if0, iown, iblk⟩ := hP.cells
  obtain ⟨a0, cap0, hv0⟩ := slice_form iown
  subst hv0
  clear i0 i1 i2 i4 if0 iown iblk
  clear hP ih
  rw [P] at h
  simp only [Option.bind_eq_bind, Option.bind_eq_some_iff] at h
  obtain ⟨s1, h2, h3⟩ := h
  have H4 : Hid _ := h2
  clear h2
  have H5 : Hid _ := h3
  clear h3
  unfold Does
  go_enter Tryd.func92, Tryd.ntmps92
  go_wp2_with fail
  refine Calls.mono (unhide IHH n (Nat.le_refl n) .rel st s1 _ rfl (unhide HP0) (unhide H4)) ?_
  rintro e w6 ⟨rfl, p1, b1⟩; have HP7 := hide p1; have BB8 := hide ((unhide B0).trans b1); clear p1 b1
  go_wp2_with fail
  refine (kq_any (unhide HP7)).mono ?_
  rintro e w1 ⟨rfl, hw⟩; have hw := hw.symm; subst hw
  cases c9 : kq toks s1 [38, 38] with
  | true =>
    have X10 := (if_pos c9).symm.trans (unhide H5)
    have q11 : ((kindL toks s1).toList == [38, 38]) = true := c9
    clear c9 H5
    simp only [Option.bind_eq_some_iff] at X10
    obtain ⟨s12, h13, s14, h15, h16⟩ := X10
    have H17 : Hid _ := h13
    clear h13
    have H18 : Hid _ := h15
    clear h15
    have H19 : Hid _ := h16
    clear h16
    go_wp2_with fail
    refine (aroundM_any (unhide HP7) (unhide H17)).mono ?_
    rintro e w20 ⟨rfl, p1, b1⟩; have HP21 := hide p1; have BB22 := hide ((unhide BB8).trans b1); clear p1 b1
    go_wp2_with fail
    go_loopg [] n (fun m wr => ∃ sk, m ≤ n ∧ PS b tv toks wr sk ∧ P toks m .andL sk = some s14 ∧ Below b w wr)
    case atStart => exact ⟨s12, Nat.le_refl _, unhide HP21, unhide H18, unhide BB22⟩
    case round =>
      obtain ⟨sk, hm, hPk, hE, hBk⟩ := hrel
      cases gk with
      | zero => cases hE
      | succ m =>
      have HPk := hide hPk
      have HBk := hide hBk
      have HEk : Hid _ := hE
      clear hPk hBk hE
      cases cq : kq toks sk [38, 38] with
      | true =>
        have q : ((kindL toks sk).toList == [38, 38]) = true := cq
        go_wp2_with fail
        refine (kq_any (unhide HPk)).mono ?_
        rintro e w1 ⟨rfl, hw⟩; have hw := hw.symm; subst hw
        have X23 := (if_pos cq).symm.trans (unhide HEk)
        clear HEk
        simp only [Option.bind_eq_bind, Option.bind_eq_some_iff] at X23
        obtain ⟨s24, h25, s26, h27, h28⟩ := X23
        have H29 : Hid _ := h25
        clear h25
        have H30 : Hid _ := h27
        clear h27
        have H31 : Hid _ := h28
        clear h28
        go_wp2_with fail
        refine (takeM_any (unhide HPk) (unhide H29)).mono ?_
        rintro e w32 ⟨rfl, p1, b1⟩; have HP33 := hide p1; have BB34 := hide ((unhide HBk).trans b1); clear p1 b1
        go_wp2_with fail
        refine Calls.mono (unhide IHH m (by omega) .rel s24 s26 _ rfl (unhide HP33) (unhide H30)) ?_
        rintro e w35 ⟨rfl, p1, b1⟩; have HP36 := hide p1; have BB37 := hide ((unhide BB34).trans b1); clear p1 b1
        go_wp2_with fail
        go_roundg m
        case measure => exact Nat.lt_succ_self m
        case rel => exact ⟨s26, by omega, unhide HP36, unhide H31, unhide BB37⟩
      | false =>
        have q : ((kindL toks sk).toList == [38, 38]) = false := cq
        have X38 := (if_neg (show ¬ kq toks sk [38, 38] = true by rw [cq]; exact Bool.false_ne_true)).symm.trans (unhide HEk)
        clear HEk
        have e39 := Option.some.inj X38
        clear X38
        subst e39
        clear cq
        go_wp2_with fail
        refine (kq_any (unhide HPk)).mono ?_
        rintro e w1 ⟨rfl, hw⟩; have hw := hw.symm; subst hw
        go_wp2_with fail
        refine (closeM_any (unhide HPk) (unhide H19)).mono ?_
        rintro e w40 ⟨rfl, p1, b1⟩; have HP41 := hide p1; have BB42 := hide ((unhide HBk).trans b1); clear p1 b1
        go_wp2_with fail
        first | go_end0 | refine bodyPost_ret (results_none (by rfl) _ _ _) rfl ?_
        exact ⟨rfl, unhide HP41, unhide BB42⟩
  | false =>
    have X43 := (if_neg (show ¬ (kq toks s1 [38, 38]) = true by rw [c9]; exact Bool.false_ne_true)).symm.trans (unhide H5)
    have q44 : ((kindL toks s1).toList == [38, 38]) = false := c9
    clear c9 H5
    have e45 := Option.some.inj X43
    clear X43
    subst e45
    go_wp2_with fail
    first | go_end0 | refine bodyPost_ret (results_none (by rfl) _ _ _) rfl ?_
    exact ⟨rfl, unhide HP7, unhide BB8⟩

set_option maxHeartbeats 1600000 in
theorem rel_step {b : Nat} {tv : Value} {toks : List Tok} {n : Nat} (ih : ∀ m, m ≤ n → IH b tv toks m) {w : World} {st st' : PSt} (hP : PS b tv toks w st) (h : P toks (n + 1) .rel st = some st') : Does 95 b tv toks w st' := by
  have IHH := hide ih
  have HP0 := hide hP
  have B0 := hide (Below.refl b w)
  obtain ⟨nv0, i0, i1, i2, i3, i4, if0, iown, iblk⟩ := hP.cells
  obtain ⟨a0, cap0, hv0⟩ := slice_form iown
  subst hv0
  clear i0 i1 i2 i4 if0 iown iblk
  clear hP ih
  rw [P] at h
  simp only [Option.bind_eq_bind, Option.bind_eq_some_iff] at h
  obtain ⟨s1, h2, h3⟩ := h
  have H4 : Hid _ := h2
  clear h2
  have H5 : Hid _ := h3
  clear h3
  unfold Does
  go_enter Tryd.func95, Tryd.ntmps95
  go_wp2_with fail
  refine Calls.mono (unhide IHH n (Nat.le_refl n) .sum st s1 _ rfl (unhide HP0) (unhide H4)) ?_
  rintro e w6 ⟨rfl, p1, b1⟩; have HP7 := hide p1; have BB8 := hide ((unhide B0).trans b1); clear p1 b1
  go_wp2_with fail
  refine (kq_any (unhide HP7)).mono ?_
  rintro e w1 ⟨rfl, hw⟩; have hw := hw.symm; subst hw
  go_wp2_with fail
  refine (isRelSign_any _ _).mono ?_
  rintro e w1 ⟨rfl, hw⟩; have hw := hw.symm; subst hw
  cases c9 : relB (kindL toks s1).toList with
  | true =>
    have X10 := (if_pos c9).symm.trans (unhide H5)
    have q11 : relB (kindL toks s1).toList = true := c9
    clear c9 H5
    simp only [Option.bind_eq_some_iff] at X10
    obtain ⟨s12, h13, s14, h15, s16, h17, h18⟩ := X10
    have H19 : Hid _ := h13
    clear h13
    have H20 : Hid _ := h15
    clear h15
    have H21 : Hid _ := h17
    clear h17
    have H22 : Hid _ := h18
    clear h18
    go_wp2_with fail
    refine (aroundM_any (unhide HP7) (unhide H19)).mono ?_
    rintro e w23 ⟨rfl, p1, b1⟩; have HP24 := hide p1; have BB25 := hide ((unhide BB8).trans b1); clear p1 b1
    go_wp2_with fail
    refine (takeM_any (unhide HP24) (unhide H20)).mono ?_
    rintro e w26 ⟨rfl, p1, b1⟩; have HP27 := hide p1; have BB28 := hide ((unhide BB25).trans b1); clear p1 b1
    go_wp2_with fail
    refine Calls.mono (unhide IHH n (Nat.le_refl n) .sum s14 s16 _ rfl (unhide HP27) (unhide H21)) ?_
    rintro e w29 ⟨rfl, p1, b1⟩; have HP30 := hide p1; have BB31 := hide ((unhide BB28).trans b1); clear p1 b1
    go_wp2_with fail
    refine (closeM_any (unhide HP30) (unhide H22)).mono ?_
    rintro e w32 ⟨rfl, p1, b1⟩; have HP33 := hide p1; have BB34 := hide ((unhide BB31).trans b1); clear p1 b1
    go_wp2_with fail
    first | go_end0 | refine bodyPost_ret (results_none (by rfl) _ _ _) rfl ?_
    exact ⟨rfl, unhide HP33, unhide BB34⟩
  | false =>
    have X35 := (if_neg (show ¬ (relB (kindL toks s1).toList) = true by rw [c9]; exact Bool.false_ne_true)).symm.trans (unhide H5)
    have q36 : relB (kindL toks s1).toList = false := c9
    clear c9 H5
    have e37 := Option.some.inj X35
    clear X35
    subst e37
    go_wp2_with fail
    first | go_end0 | refine bodyPost_ret (results_none (by rfl) _ _ _) rfl ?_
    exact ⟨rfl, unhide HP7, unhide BB8⟩

end Go.Proofs.YtdaneedflpfeaaaDoor
