import Derived.Test.YtdaneedflpfeaaaDoorTwin2
namespace Go.Proofs.YtdaneedflpfeaaaDoor
set_option maxRecDepth 100000
open Go.RowKit

set_option maxHeartbeats 1600000 in
theorem sum_step {b : Nat} {tv : Value} {toks : List Tok} {n : Nat} (ih : ∀ m, m ≤ n → IH b tv toks m) {w : World} {st st' : PSt} (hP : PS b tv toks w st) (h : P toks (n + 1) .sum st = some st') : Does 97 b tv toks w st' := by
  have IHH := hide ih
  have HP0 := hide hP
  have B0 := hide (Below.refl b w)
  obtain ⟨nv0, i0, i1, i2, i3, i4, if0, iown, iblk⟩ := hP.cells
  obtain ⟨a0, cap0, hv0⟩ := slice_form iown
  subst hv0
  clear i0 i1 i2 i4 if0 iown iblk
  clear hP ih
  rw [P] at h
  simp only [Option.bind_eq_bind, Option.bind_eq_some_iff] at h
  obtain ⟨s1, h2, h3⟩ := h
  have H4 : Hid _ := h2
  clear h2
  have H5 : Hid _ := h3
  clear h3
  unfold Does
  go_enter Tryd.func97, Tryd.ntmps97
  go_wp2_with fail
  refine Calls.mono (unhide IHH n (Nat.le_refl n) .prod st s1 _ rfl (unhide HP0) (unhide H4)) ?_
  rintro e w6 ⟨rfl, p1, b1⟩; have HP7 := hide p1; have BB8 := hide ((unhide B0).trans b1); clear p1 b1
  go_wp2_with fail
  refine (kq_any (unhide HP7)).mono ?_
  rintro e w1 ⟨rfl, hw⟩; have hw := hw.symm; subst hw
  go_wp2_with fail
  refine (isSumSign_any _ _).mono ?_
  rintro e w1 ⟨rfl, hw⟩; have hw := hw.symm; subst hw
  cases c9 : sumB (kindL toks s1).toList with
  | true =>
    have X10 := (if_pos c9).symm.trans (unhide H5)
    have q11 : sumB (kindL toks s1).toList = true := c9
    clear c9 H5
    simp only [Option.bind_eq_some_iff] at X10
    obtain ⟨s12, h13, s14, h15, h16⟩ := X10
    have H17 : Hid _ := h13
    clear h13
    have H18 : Hid _ := h15
    clear h15
    have H19 : Hid _ := h16
    clear h16
    go_wp2_with fail
    refine (aroundM_any (unhide HP7) (unhide H17)).mono ?_
    rintro e w20 ⟨rfl, p1, b1⟩; have HP21 := hide p1; have BB22 := hide ((unhide BB8).trans b1); clear p1 b1
    go_wp2_with fail
    go_loopg [3] n (fun m sg wr => ∃ sk, m ≤ n ∧ PS b tv toks wr sk ∧ sg = .string (kindL toks sk) ∧ P toks m .sumL sk = some s14 ∧ Below b w wr)
    case atStart => exact ⟨s12, Nat.le_refl _, unhide HP21, by rw [kind_around (unhide H17)], unhide H18, unhide BB22⟩
    case round =>
      obtain ⟨sk, hm, hPk, rfl, hE, hBk⟩ := hrel
      cases gk with
      | zero => cases hE
      | succ m =>
      have HPk := hide hPk
      have HBk := hide hBk
      have HEk : Hid _ := hE
      clear hPk hBk hE
      cases cq : sumB (kindL toks sk).toList with
      | true =>
        go_wp2_with fail
        refine (isSumSign_any _ _).mono ?_
        rintro e w1 ⟨rfl, hw⟩; have hw := hw.symm; subst hw
        have X23 := (if_pos cq).symm.trans (unhide HEk)
        clear HEk
        simp only [Option.bind_eq_bind, Option.bind_eq_some_iff] at X23
        obtain ⟨s24, h25, s26, h27, h28⟩ := X23
        have H29 : Hid _ := h25
        clear h25
        have H30 : Hid _ := h27
        clear h27
        have H31 : Hid _ := h28
        clear h28
        go_wp2_with fail
        refine (takeM_any (unhide HPk) (unhide H29)).mono ?_
        rintro e w32 ⟨rfl, p1, b1⟩; have HP33 := hide p1; have BB34 := hide ((unhide HBk).trans b1); clear p1 b1
        go_wp2_with fail
        refine Calls.mono (unhide IHH m (by omega) .prod s24 s26 _ rfl (unhide HP33) (unhide H30)) ?_
        rintro e w35 ⟨rfl, p1, b1⟩; have HP36 := hide p1; have BB37 := hide ((unhide BB34).trans b1); clear p1 b1
        go_wp2_with fail
        refine (kq_any (unhide HP36)).mono ?_
        rintro e w1 ⟨rfl, hw⟩; have hw := hw.symm; subst hw
        go_wp2_with fail
        go_roundg m
        case measure => exact Nat.lt_succ_self m
        case rel => exact ⟨s26, by omega, unhide HP36, rfl, unhide H31, unhide BB37⟩
      | false =>
        have X38 := (if_neg (show ¬ sumB (kindL toks sk).toList = true by rw [cq]; exact Bool.false_ne_true)).symm.trans (unhide HEk)
        clear HEk
        have e39 := Option.some.inj X38
        clear X38
        subst e39
        go_wp2_with fail
        refine (isSumSign_any _ _).mono ?_
        rintro e w1 ⟨rfl, hw⟩; have hw := hw.symm; subst hw
        go_wp2_with fail
        refine (closeM_any (unhide HPk) (unhide H19)).mono ?_
        rintro e w40 ⟨rfl, p1, b1⟩; have HP41 := hide p1; have BB42 := hide ((unhide HBk).trans b1); clear p1 b1
        go_wp2_with fail
        first | go_end0 | refine bodyPost_ret (results_none (by rfl) _ _ _) rfl ?_
        exact ⟨rfl, unhide HP41, unhide BB42⟩
  | false =>
    have X43 := (if_neg (show ¬ (sumB (kindL toks s1).toList) = true by rw [c9]; exact Bool.false_ne_true)).symm.trans (unhide H5)
    have q44 : sumB (kindL toks s1).toList = false := c9
    clear c9 H5
    have e45 := Option.some.inj X43
    clear X43
    subst e45
    go_wp2_with fail
    first | go_end0 | refine bodyPost_ret (results_none (by rfl) _ _ _) rfl ?_
    exact ⟨rfl, unhide HP7, unhide BB8⟩

set_option maxHeartbeats 1600000 in
theorem prod_step {b : Nat} {tv : Value} {toks : List Tok} {n : Nat} (ih : ∀ m, m ≤ n → IH b tv toks m) {w : World} {st st' : PSt} (hP : PS b tv toks w st) (h : P toks (n + 1) .prod st = some st') : Does 99 b tv toks w st' := by
  have IHH := hide ih
  have HP0 := hide hP
  have B0 := hide (Below.refl b w)
  obtain ⟨nv0, i0, i1, i2, i3, i4, if0, iown, iblk⟩ := hP.cells
  obtain ⟨a0, cap0, hv0⟩ := slice_form iown
  subst hv0
  clear i0 i1 i2 i4 if0 iown iblk
  clear hP ih
  rw [P] at h
  simp only [Option.bind_eq_bind, Option.bind_eq_some_iff] at h
  obtain ⟨s1, h2, h3⟩ := h
  have H4 : Hid _ := h2
  clear h2
  have H5 : Hid _ := h3
  clear h3
  unfold Does
  go_enter Tryd.func99, Tryd.ntmps99
  go_wp2_with fail
  refine Calls.mono (unhide IHH n (Nat.le_refl n) .single st s1 _ rfl (unhide HP0) (unhide H4)) ?_
  rintro e w6 ⟨rfl, p1, b1⟩; have HP7 := hide p1; have BB8 := hide ((unhide B0).trans b1); clear p1 b1
  go_wp2_with fail
  refine (kq_any (unhide HP7)).mono ?_
  rintro e w1 ⟨rfl, hw⟩; have hw := hw.symm; subst hw
  go_wp2_with fail
  refine (isProdSign_any _ _).mono ?_
  rintro e w1 ⟨rfl, hw⟩; have hw := hw.symm; subst hw
  cases c9 : prodB (kindL toks s1).toList with
  | true =>
    have X10 := (if_pos c9).symm.trans (unhide H5)
    have q11 : prodB (kindL toks s1).toList = true := c9
    clear c9 H5
    simp only [Option.bind_eq_some_iff] at X10
    obtain ⟨s12, h13, s14, h15, h16⟩ := X10
    have H17 : Hid _ := h13
    clear h13
    have H18 : Hid _ := h15
    clear h15
    have H19 : Hid _ := h16
    clear h16
    go_wp2_with fail
    refine (aroundM_any (unhide HP7) (unhide H17)).mono ?_
    rintro e w20 ⟨rfl, p1, b1⟩; have HP21 := hide p1; have BB22 := hide ((unhide BB8).trans b1); clear p1 b1
    go_wp2_with fail
    go_loopg [3] n (fun m sg wr => ∃ sk, m ≤ n ∧ PS b tv toks wr sk ∧ sg = .string (kindL toks sk) ∧ P toks m .prodL sk = some s14 ∧ Below b w wr)
    case atStart => exact ⟨s12, Nat.le_refl _, unhide HP21, by rw [kind_around (unhide H17)], unhide H18, unhide BB22⟩
    case round =>
      obtain ⟨sk, hm, hPk, rfl, hE, hBk⟩ := hrel
      cases gk with
      | zero => cases hE
      | succ m =>
      have HPk := hide hPk
      have HBk := hide hBk
      have HEk : Hid _ := hE
      clear hPk hBk hE
      cases cq : prodB (kindL toks sk).toList with
      | true =>
        go_wp2_with fail
        refine (isProdSign_any _ _).mono ?_
        rintro e w1 ⟨rfl, hw⟩; have hw := hw.symm; subst hw
        have X23 := (if_pos cq).symm.trans (unhide HEk)
        clear HEk
        simp only [Option.bind_eq_bind, Option.bind_eq_some_iff] at X23
        obtain ⟨s24, h25, s26, h27, h28⟩ := X23
        have H29 : Hid _ := h25
        clear h25
        have H30 : Hid _ := h27
        clear h27
        have H31 : Hid _ := h28
        clear h28
        go_wp2_with fail
        refine (takeM_any (unhide HPk) (unhide H29)).mono ?_
        rintro e w32 ⟨rfl, p1, b1⟩; have HP33 := hide p1; have BB34 := hide ((unhide HBk).trans b1); clear p1 b1
        go_wp2_with fail
        refine Calls.mono (unhide IHH m (by omega) .single s24 s26 _ rfl (unhide HP33) (unhide H30)) ?_
        rintro e w35 ⟨rfl, p1, b1⟩; have HP36 := hide p1; have BB37 := hide ((unhide BB34).trans b1); clear p1 b1
        go_wp2_with fail
        refine (kq_any (unhide HP36)).mono ?_
        rintro e w1 ⟨rfl, hw⟩; have hw := hw.symm; subst hw
        go_wp2_with fail
        go_roundg m
        case measure => exact Nat.lt_succ_self m
        case rel => exact ⟨s26, by omega, unhide HP36, rfl, unhide H31, unhide BB37⟩
      | false =>
        have X38 := (if_neg (show ¬ prodB (kindL toks sk).toList = true by rw [cq]; exact Bool.false_ne_true)).symm.trans (unhide HEk)
        clear HEk
        have e39 := Option.some.inj X38
        clear X38
        subst e39
        go_wp2_with fail
        refine (isProdSign_any _ _).mono ?_
        rintro e w1 ⟨rfl, hw⟩; have hw := hw.symm; subst hw
        go_wp2_with fail
        refine (closeM_any (unhide HPk) (unhide H19)).mono ?_
        rintro e w40 ⟨rfl, p1, b1⟩; have HP41 := hide p1; have BB42 := hide ((unhide HBk).trans b1); clear p1 b1
        go_wp2_with fail
        first | go_end0 | refine bodyPost_ret (results_none (by rfl) _ _ _) rfl ?_
        exact ⟨rfl, unhide HP41, unhide BB42⟩
  | false =>
    have X43 := (if_neg (show ¬ (prodB (kindL toks s1).toList) = true by rw [c9]; exact Bool.false_ne_true)).symm.trans (unhide H5)
    have q44 : prodB (kindL toks s1).toList = false := c9
    clear c9 H5
    have e45 := Option.some.inj X43
    clear X43
    subst e45
    go_wp2_with fail
    first | go_end0 | refine bodyPost_ret (results_none (by rfl) _ _ _) rfl ?_
    exact ⟨rfl, unhide HP7, unhide BB8⟩

set_option maxHeartbeats 1600000 in
theorem nameOrCall_step {b : Nat} {tv : Value} {toks : List Tok} {n : Nat} (ih : ∀ m, m ≤ n → IH b tv toks m) {w : World} {st st' : PSt} (hP : PS b tv toks w st) (h : P toks (n + 1) .nameOrCall st = some st') : Does 105 b tv toks w st' := by
  have IHH := hide ih
  have HP0 := hide hP
  have B0 := hide (Below.refl b w)
  obtain ⟨nv0, i0, i1, i2, i3, i4, if0, iown, iblk⟩ := hP.cells
  obtain ⟨a0, cap0, hv0⟩ := slice_form iown
  subst hv0
  clear i0 i1 i2 i4 if0 iown iblk
  clear hP ih
  rw [P] at h
  simp only [Option.bind_eq_bind, Option.bind_eq_some_iff] at h
  obtain ⟨s1, h2, h3⟩ := h
  have H4 : Hid _ := h2
  clear h2
  have H5 : Hid _ := h3
  clear h3
  unfold Does
  go_enter Tryd.func105, Tryd.ntmps105
  go_wp2_with fail
  refine (needM_any (unhide HP0) (unhide H4)).mono ?_
  rintro e w6 ⟨rfl, p1, b1⟩; have HP7 := hide p1; have BB8 := hide ((unhide B0).trans b1); clear p1 b1
  go_wp2_with fail
  refine (kq_any (unhide HP7)).mono ?_
  rintro e w1 ⟨rfl, hw⟩; have hw := hw.symm; subst hw
  cases c9 : kq toks s1 [40] with
  | true =>
    have X10 := (if_pos c9).symm.trans (unhide H5)
    have q11 : ((kindL toks s1).toList == [40]) = true := c9
    clear c9 H5
    simp only [Option.bind_eq_some_iff] at X10
    obtain ⟨s12, h13, s14, h15, h16⟩ := X10
    have H17 : Hid _ := h13
    clear h13
    have H18 : Hid _ := h15
    clear h15
    have H19 : Hid _ := h16
    clear h16
    go_wp2_with fail
    refine (aroundM_any (unhide HP7) (unhide H17)).mono ?_
    rintro e w20 ⟨rfl, p1, b1⟩; have HP21 := hide p1; have BB22 := hide ((unhide BB8).trans b1); clear p1 b1
    go_wp2_with fail
    refine (takeM_any (unhide HP21) (unhide H18)).mono ?_
    rintro e w23 ⟨rfl, p1, b1⟩; have HP24 := hide p1; have BB25 := hide ((unhide BB22).trans b1); clear p1 b1
    go_wp2_with fail
    refine (kq_any (unhide HP24)).mono ?_
    rintro e w1 ⟨rfl, hw⟩; have hw := hw.symm; subst hw
    cases c26 : kq toks s14 [41] with
    | true =>
      have X27 := (if_pos c26).symm.trans (unhide H19)
      have q28 : ((kindL toks s14).toList == [41]) = true := c26
      clear c26 H19
      simp only [Option.bind_eq_some_iff] at X27
      obtain ⟨s29, h30, s31, h32, h33⟩ := X27
      have H34 : Hid _ := h30
      clear h30
      have H35 : Hid _ := h32
      clear h32
      have H36 : Hid _ := h33
      clear h33
      have e37 := Option.some.inj (unhide H34)
      clear H34
      subst e37
      go_wp2_with fail
      refine (needM_any (unhide HP24) (unhide H35)).mono ?_
      rintro e w38 ⟨rfl, p1, b1⟩; have HP39 := hide p1; have BB40 := hide ((unhide BB25).trans b1); clear p1 b1
      go_wp2_with fail
      refine (closeM_any (unhide HP39) (unhide H36)).mono ?_
      rintro e w41 ⟨rfl, p1, b1⟩; have HP42 := hide p1; have BB43 := hide ((unhide BB40).trans b1); clear p1 b1
      go_wp2_with fail
      first | go_end0 | refine bodyPost_ret (results_none (by rfl) _ _ _) rfl ?_
      exact ⟨rfl, unhide HP42, unhide BB43⟩
    | false =>
      have X44 := (if_neg (show ¬ (kq toks s14 [41]) = true by rw [c26]; exact Bool.false_ne_true)).symm.trans (unhide H19)
      have q45 : ((kindL toks s14).toList == [41]) = false := c26
      clear c26 H19
      simp only [Option.bind_eq_some_iff] at X44
      obtain ⟨s46, h47, s48, h49, h50⟩ := X44
      have H51 : Hid _ := h47
      clear h47
      have H52 : Hid _ := h49
      clear h49
      have H53 : Hid _ := h50
      clear h50
      go_wp2_with fail
      refine Calls.mono (unhide IHH n (Nat.le_refl n) .values s14 s46 _ rfl (unhide HP24) (unhide H51)) ?_
      rintro e w54 ⟨rfl, p1, b1⟩; have HP55 := hide p1; have BB56 := hide ((unhide BB25).trans b1); clear p1 b1
      go_wp2_with fail
      refine (needM_any (unhide HP55) (unhide H52)).mono ?_
      rintro e w57 ⟨rfl, p1, b1⟩; have HP58 := hide p1; have BB59 := hide ((unhide BB56).trans b1); clear p1 b1
      go_wp2_with fail
      refine (closeM_any (unhide HP58) (unhide H53)).mono ?_
      rintro e w60 ⟨rfl, p1, b1⟩; have HP61 := hide p1; have BB62 := hide ((unhide BB59).trans b1); clear p1 b1
      go_wp2_with fail
      first | go_end0 | refine bodyPost_ret (results_none (by rfl) _ _ _) rfl ?_
      exact ⟨rfl, unhide HP61, unhide BB62⟩
  | false =>
    have X63 := (if_neg (show ¬ (kq toks s1 [40]) = true by rw [c9]; exact Bool.false_ne_true)).symm.trans (unhide H5)
    have q64 : ((kindL toks s1).toList == [40]) = false := c9
    clear c9 H5
    have e65 := Option.some.inj X63
    clear X63
    subst e65
    go_wp2_with fail
    first | go_end0 | refine bodyPost_ret (results_none (by rfl) _ _ _) rfl ?_
    exact ⟨rfl, unhide HP7, unhide BB8⟩

end Go.Proofs.YtdaneedflpfeaaaDoor
