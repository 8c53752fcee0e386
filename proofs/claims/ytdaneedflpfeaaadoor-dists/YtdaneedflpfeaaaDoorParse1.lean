import Derived.Test.YtdaneedflpfeaaaDoorTwin2
namespace Go.Proofs.YtdaneedflpfeaaaDoor
set_option maxRecDepth 100000
open Go.RowKit

set_option maxHeartbeats 1600000 in
theorem param_step {b : Nat} {tv : Value} {toks : List Tok} {n : Nat} (ih : ∀ m, m ≤ n → IH b tv toks m) {w : World} {st st' : PSt} (hP : PS b tv toks w st) (h : P toks (n + 1) .param st = some st') : Does 75 b tv toks w st' := by
  have IHH := hide ih
  have HP0 := hide hP
  have B0 := hide (Below.refl b w)
  clear hP ih
  rw [P] at h
  simp only [Option.bind_eq_bind, Option.bind_eq_some_iff] at h
  obtain ⟨s1, h2, s3, h4, s5, h6, h7⟩ := h
  have H8 : Hid _ := h2
  clear h2
  have H9 : Hid _ := h4
  clear h4
  have H10 : Hid _ := h6
  clear h6
  have H11 : Hid _ := h7
  clear h7
  unfold Does
  go_enter Tryd.func75, Tryd.ntmps75
  go_wp2_with fail
  refine (openM_any (unhide HP0) (unhide H8)).mono ?_
  rintro e w12 ⟨rfl, p1, b1⟩; have HP13 := hide p1; have BB14 := hide ((unhide B0).trans b1); clear p1 b1
  go_wp2_with fail
  refine (needM_any (unhide HP13) (unhide H9)).mono ?_
  rintro e w15 ⟨rfl, p1, b1⟩; have HP16 := hide p1; have BB17 := hide ((unhide BB14).trans b1); clear p1 b1
  go_wp2_with fail
  refine (needM_any (unhide HP16) (unhide H10)).mono ?_
  rintro e w18 ⟨rfl, p1, b1⟩; have HP19 := hide p1; have BB20 := hide ((unhide BB17).trans b1); clear p1 b1
  go_wp2_with fail
  refine (closeM_any (unhide HP19) (unhide H11)).mono ?_
  rintro e w21 ⟨rfl, p1, b1⟩; have HP22 := hide p1; have BB23 := hide ((unhide BB20).trans b1); clear p1 b1
  go_wp2_with fail
  first | go_end0 | refine bodyPost_ret (results_none (by rfl) _ _ _) rfl ?_
  exact ⟨rfl, unhide HP22, unhide BB23⟩

set_option maxHeartbeats 1600000 in
theorem emptyS_step {b : Nat} {tv : Value} {toks : List Tok} {n : Nat} (ih : ∀ m, m ≤ n → IH b tv toks m) {w : World} {st st' : PSt} (hP : PS b tv toks w st) (h : P toks (n + 1) .emptyS st = some st') : Does 79 b tv toks w st' := by
  have IHH := hide ih
  have HP0 := hide hP
  have B0 := hide (Below.refl b w)
  clear hP ih
  rw [P] at h
  simp only [Option.bind_eq_bind, Option.bind_eq_some_iff] at h
  obtain ⟨s1, h2, s3, h4, h5⟩ := h
  have H6 : Hid _ := h2
  clear h2
  have H7 : Hid _ := h4
  clear h4
  have H8 : Hid _ := h5
  clear h5
  unfold Does
  go_enter Tryd.func79, Tryd.ntmps79
  go_wp2_with fail
  refine (openM_any (unhide HP0) (unhide H6)).mono ?_
  rintro e w9 ⟨rfl, p1, b1⟩; have HP10 := hide p1; have BB11 := hide ((unhide B0).trans b1); clear p1 b1
  go_wp2_with fail
  refine (needM_any (unhide HP10) (unhide H7)).mono ?_
  rintro e w12 ⟨rfl, p1, b1⟩; have HP13 := hide p1; have BB14 := hide ((unhide BB11).trans b1); clear p1 b1
  go_wp2_with fail
  refine (closeM_any (unhide HP13) (unhide H8)).mono ?_
  rintro e w15 ⟨rfl, p1, b1⟩; have HP16 := hide p1; have BB17 := hide ((unhide BB14).trans b1); clear p1 b1
  go_wp2_with fail
  first | go_end0 | refine bodyPost_ret (results_none (by rfl) _ _ _) rfl ?_
  exact ⟨rfl, unhide HP16, unhide BB17⟩

set_option maxHeartbeats 1600000 in
theorem whileS_step {b : Nat} {tv : Value} {toks : List Tok} {n : Nat} (ih : ∀ m, m ≤ n → IH b tv toks m) {w : World} {st st' : PSt} (hP : PS b tv toks w st) (h : P toks (n + 1) .whileS st = some st') : Does 81 b tv toks w st' := by
  have IHH := hide ih
  have HP0 := hide hP
  have B0 := hide (Below.refl b w)
  clear hP ih
  rw [P] at h
  simp only [Option.bind_eq_bind, Option.bind_eq_some_iff] at h
  obtain ⟨s1, h2, s3, h4, s5, h6, s7, h8, h9⟩ := h
  have H10 : Hid _ := h2
  clear h2
  have H11 : Hid _ := h4
  clear h4
  have H12 : Hid _ := h6
  clear h6
  have H13 : Hid _ := h8
  clear h8
  have H14 : Hid _ := h9
  clear h9
  unfold Does
  go_enter Tryd.func81, Tryd.ntmps81
  go_wp2_with fail
  refine (openM_any (unhide HP0) (unhide H10)).mono ?_
  rintro e w15 ⟨rfl, p1, b1⟩; have HP16 := hide p1; have BB17 := hide ((unhide B0).trans b1); clear p1 b1
  go_wp2_with fail
  refine (needM_any (unhide HP16) (unhide H11)).mono ?_
  rintro e w18 ⟨rfl, p1, b1⟩; have HP19 := hide p1; have BB20 := hide ((unhide BB17).trans b1); clear p1 b1
  go_wp2_with fail
  refine Calls.mono (unhide IHH n (Nat.le_refl n) .condition s3 s5 _ rfl (unhide HP19) (unhide H12)) ?_
  rintro e w21 ⟨rfl, p1, b1⟩; have HP22 := hide p1; have BB23 := hide ((unhide BB20).trans b1); clear p1 b1
  go_wp2_with fail
  refine Calls.mono (unhide IHH n (Nat.le_refl n) .statement s5 s7 _ rfl (unhide HP22) (unhide H13)) ?_
  rintro e w24 ⟨rfl, p1, b1⟩; have HP25 := hide p1; have BB26 := hide ((unhide BB23).trans b1); clear p1 b1
  go_wp2_with fail
  refine (closeM_any (unhide HP25) (unhide H14)).mono ?_
  rintro e w27 ⟨rfl, p1, b1⟩; have HP28 := hide p1; have BB29 := hide ((unhide BB26).trans b1); clear p1 b1
  go_wp2_with fail
  first | go_end0 | refine bodyPost_ret (results_none (by rfl) _ _ _) rfl ?_
  exact ⟨rfl, unhide HP28, unhide BB29⟩

set_option maxHeartbeats 1600000 in
theorem expr_step {b : Nat} {tv : Value} {toks : List Tok} {n : Nat} (ih : ∀ m, m ≤ n → IH b tv toks m) {w : World} {st st' : PSt} (hP : PS b tv toks w st) (h : P toks (n + 1) .expr st = some st') : Does 84 b tv toks w st' := by
  have IHH := hide ih
  have HP0 := hide hP
  have B0 := hide (Below.refl b w)
  clear hP ih
  rw [P] at h
  simp only [Option.bind_eq_bind, Option.bind_eq_some_iff] at h
  obtain ⟨s1, h2, s3, h4, s5, h6, h7⟩ := h
  have H8 : Hid _ := h2
  clear h2
  have H9 : Hid _ := h4
  clear h4
  have H10 : Hid _ := h6
  clear h6
  have H11 : Hid _ := h7
  clear h7
  unfold Does
  go_enter Tryd.func84, Tryd.ntmps84
  go_wp2_with fail
  refine (openM_any (unhide HP0) (unhide H8)).mono ?_
  rintro e w12 ⟨rfl, p1, b1⟩; have HP13 := hide p1; have BB14 := hide ((unhide B0).trans b1); clear p1 b1
  go_wp2_with fail
  refine Calls.mono (unhide IHH n (Nat.le_refl n) .value s1 s3 _ rfl (unhide HP13) (unhide H9)) ?_
  rintro e w15 ⟨rfl, p1, b1⟩; have HP16 := hide p1; have BB17 := hide ((unhide BB14).trans b1); clear p1 b1
  go_wp2_with fail
  refine (needM_any (unhide HP16) (unhide H10)).mono ?_
  rintro e w18 ⟨rfl, p1, b1⟩; have HP19 := hide p1; have BB20 := hide ((unhide BB17).trans b1); clear p1 b1
  go_wp2_with fail
  refine (closeM_any (unhide HP19) (unhide H11)).mono ?_
  rintro e w21 ⟨rfl, p1, b1⟩; have HP22 := hide p1; have BB23 := hide ((unhide BB20).trans b1); clear p1 b1
  go_wp2_with fail
  first | go_end0 | refine bodyPost_ret (results_none (by rfl) _ _ _) rfl ?_
  exact ⟨rfl, unhide HP22, unhide BB23⟩

set_option maxHeartbeats 1600000 in
theorem condition_step {b : Nat} {tv : Value} {toks : List Tok} {n : Nat} (ih : ∀ m, m ≤ n → IH b tv toks m) {w : World} {st st' : PSt} (hP : PS b tv toks w st) (h : P toks (n + 1) .condition st = some st') : Does 86 b tv toks w st' := by
  have IHH := hide ih
  have HP0 := hide hP
  have B0 := hide (Below.refl b w)
  clear hP ih
  rw [P] at h
  simp only [Option.bind_eq_bind, Option.bind_eq_some_iff] at h
  obtain ⟨s1, h2, s3, h4, h5⟩ := h
  have H6 : Hid _ := h2
  clear h2
  have H7 : Hid _ := h4
  clear h4
  have H8 : Hid _ := h5
  clear h5
  unfold Does
  go_enter Tryd.func86, Tryd.ntmps86
  go_wp2_with fail
  refine (needM_any (unhide HP0) (unhide H6)).mono ?_
  rintro e w9 ⟨rfl, p1, b1⟩; have HP10 := hide p1; have BB11 := hide ((unhide B0).trans b1); clear p1 b1
  go_wp2_with fail
  refine Calls.mono (unhide IHH n (Nat.le_refl n) .value s1 s3 _ rfl (unhide HP10) (unhide H7)) ?_
  rintro e w12 ⟨rfl, p1, b1⟩; have HP13 := hide p1; have BB14 := hide ((unhide BB11).trans b1); clear p1 b1
  go_wp2_with fail
  refine (needM_any (unhide HP13) (unhide H8)).mono ?_
  rintro e w15 ⟨rfl, p1, b1⟩; have HP16 := hide p1; have BB17 := hide ((unhide BB14).trans b1); clear p1 b1
  go_wp2_with fail
  first | go_end0 | refine bodyPost_ret (results_none (by rfl) _ _ _) rfl ?_
  exact ⟨rfl, unhide HP16, unhide BB17⟩

set_option maxHeartbeats 1600000 in
theorem set_step {b : Nat} {tv : Value} {toks : List Tok} {n : Nat} (ih : ∀ m, m ≤ n → IH b tv toks m) {w : World} {st st' : PSt} (hP : PS b tv toks w st) (h : P toks (n + 1) .set st = some st') : Does 89 b tv toks w st' := by
  have IHH := hide ih
  have HP0 := hide hP
  have B0 := hide (Below.refl b w)
  clear hP ih
  rw [P] at h
  simp only [Option.bind_eq_bind, Option.bind_eq_some_iff] at h
  obtain ⟨s1, h2, s3, h4, s5, h6, s7, h8, h9⟩ := h
  have H10 : Hid _ := h2
  clear h2
  have H11 : Hid _ := h4
  clear h4
  have H12 : Hid _ := h6
  clear h6
  have H13 : Hid _ := h8
  clear h8
  have H14 : Hid _ := h9
  clear h9
  unfold Does
  go_enter Tryd.func89, Tryd.ntmps89
  go_wp2_with fail
  refine (openM_any (unhide HP0) (unhide H10)).mono ?_
  rintro e w15 ⟨rfl, p1, b1⟩; have HP16 := hide p1; have BB17 := hide ((unhide B0).trans b1); clear p1 b1
  go_wp2_with fail
  refine (needM_any (unhide HP16) (unhide H11)).mono ?_
  rintro e w18 ⟨rfl, p1, b1⟩; have HP19 := hide p1; have BB20 := hide ((unhide BB17).trans b1); clear p1 b1
  go_wp2_with fail
  refine (needM_any (unhide HP19) (unhide H12)).mono ?_
  rintro e w21 ⟨rfl, p1, b1⟩; have HP22 := hide p1; have BB23 := hide ((unhide BB20).trans b1); clear p1 b1
  go_wp2_with fail
  refine Calls.mono (unhide IHH n (Nat.le_refl n) .value s5 s7 _ rfl (unhide HP22) (unhide H13)) ?_
  rintro e w24 ⟨rfl, p1, b1⟩; have HP25 := hide p1; have BB26 := hide ((unhide BB23).trans b1); clear p1 b1
  go_wp2_with fail
  refine (closeM_any (unhide HP25) (unhide H14)).mono ?_
  rintro e w27 ⟨rfl, p1, b1⟩; have HP28 := hide p1; have BB29 := hide ((unhide BB26).trans b1); clear p1 b1
  go_wp2_with fail
  first | go_end0 | refine bodyPost_ret (results_none (by rfl) _ _ _) rfl ?_
  exact ⟨rfl, unhide HP28, unhide BB29⟩

set_option maxHeartbeats 1600000 in
theorem neg_step {b : Nat} {tv : Value} {toks : List Tok} {n : Nat} (ih : ∀ m, m ≤ n → IH b tv toks m) {w : World} {st st' : PSt} (hP : PS b tv toks w st) (h : P toks (n + 1) .neg st = some st') : Does 103 b tv toks w st' := by
  have IHH := hide ih
  have HP0 := hide hP
  have B0 := hide (Below.refl b w)
  clear hP ih
  rw [P] at h
  simp only [Option.bind_eq_bind, Option.bind_eq_some_iff] at h
  obtain ⟨s1, h2, s3, h4, s5, h6, h7⟩ := h
  have H8 : Hid _ := h2
  clear h2
  have H9 : Hid _ := h4
  clear h4
  have H10 : Hid _ := h6
  clear h6
  have H11 : Hid _ := h7
  clear h7
  unfold Does
  go_enter Tryd.func103, Tryd.ntmps103
  go_wp2_with fail
  refine (openM_any (unhide HP0) (unhide H8)).mono ?_
  rintro e w12 ⟨rfl, p1, b1⟩; have HP13 := hide p1; have BB14 := hide ((unhide B0).trans b1); clear p1 b1
  go_wp2_with fail
  refine (takeM_any (unhide HP13) (unhide H9)).mono ?_
  rintro e w15 ⟨rfl, p1, b1⟩; have HP16 := hide p1; have BB17 := hide ((unhide BB14).trans b1); clear p1 b1
  go_wp2_with fail
  refine Calls.mono (unhide IHH n (Nat.le_refl n) .single s3 s5 _ rfl (unhide HP16) (unhide H10)) ?_
  rintro e w18 ⟨rfl, p1, b1⟩; have HP19 := hide p1; have BB20 := hide ((unhide BB17).trans b1); clear p1 b1
  go_wp2_with fail
  refine (closeM_any (unhide HP19) (unhide H11)).mono ?_
  rintro e w21 ⟨rfl, p1, b1⟩; have HP22 := hide p1; have BB23 := hide ((unhide BB20).trans b1); clear p1 b1
  go_wp2_with fail
  first | go_end0 | refine bodyPost_ret (results_none (by rfl) _ _ _) rfl ?_
  exact ⟨rfl, unhide HP22, unhide BB23⟩

set_option maxHeartbeats 1600000 in
theorem group_step {b : Nat} {tv : Value} {toks : List Tok} {n : Nat} (ih : ∀ m, m ≤ n → IH b tv toks m) {w : World} {st st' : PSt} (hP : PS b tv toks w st) (h : P toks (n + 1) .group st = some st') : Does 104 b tv toks w st' := by
  have IHH := hide ih
  have HP0 := hide hP
  have B0 := hide (Below.refl b w)
  clear hP ih
  rw [P] at h
  simp only [Option.bind_eq_bind, Option.bind_eq_some_iff] at h
  obtain ⟨s1, h2, s3, h4, s5, h6, s7, h8, h9⟩ := h
  have H10 : Hid _ := h2
  clear h2
  have H11 : Hid _ := h4
  clear h4
  have H12 : Hid _ := h6
  clear h6
  have H13 : Hid _ := h8
  clear h8
  have H14 : Hid _ := h9
  clear h9
  unfold Does
  go_enter Tryd.func104, Tryd.ntmps104
  go_wp2_with fail
  refine (openM_any (unhide HP0) (unhide H10)).mono ?_
  rintro e w15 ⟨rfl, p1, b1⟩; have HP16 := hide p1; have BB17 := hide ((unhide B0).trans b1); clear p1 b1
  go_wp2_with fail
  refine (needM_any (unhide HP16) (unhide H11)).mono ?_
  rintro e w18 ⟨rfl, p1, b1⟩; have HP19 := hide p1; have BB20 := hide ((unhide BB17).trans b1); clear p1 b1
  go_wp2_with fail
  refine Calls.mono (unhide IHH n (Nat.le_refl n) .value s3 s5 _ rfl (unhide HP19) (unhide H12)) ?_
  rintro e w21 ⟨rfl, p1, b1⟩; have HP22 := hide p1; have BB23 := hide ((unhide BB20).trans b1); clear p1 b1
  go_wp2_with fail
  refine (needM_any (unhide HP22) (unhide H13)).mono ?_
  rintro e w24 ⟨rfl, p1, b1⟩; have HP25 := hide p1; have BB26 := hide ((unhide BB23).trans b1); clear p1 b1
  go_wp2_with fail
  refine (closeM_any (unhide HP25) (unhide H14)).mono ?_
  rintro e w27 ⟨rfl, p1, b1⟩; have HP28 := hide p1; have BB29 := hide ((unhide BB26).trans b1); clear p1 b1
  go_wp2_with fail
  first | go_end0 | refine bodyPost_ret (results_none (by rfl) _ _ _) rfl ?_
  exact ⟨rfl, unhide HP28, unhide BB29⟩

set_option maxHeartbeats 1600000 in
theorem params_step {b : Nat} {tv : Value} {toks : List Tok} {n : Nat} (ih : ∀ m, m ≤ n → IH b tv toks m) {w : World} {st st' : PSt} (hP : PS b tv toks w st) (h : P toks (n + 1) .params st = some st') : Does 60 b tv toks w st' := by
  have IHH := hide ih
  have HP0 := hide hP
  have B0 := hide (Below.refl b w)
  clear hP ih
  rw [P] at h
  simp only [Option.bind_eq_bind, Option.bind_eq_some_iff] at h
  obtain ⟨s1, h2, h3⟩ := h
  have H4 : Hid _ := h2
  clear h2
  have H5 : Hid _ := h3
  clear h3
  unfold Does
  go_enter Tryd.func60, Tryd.ntmps60
  go_wp2_with fail
  refine Calls.mono (unhide IHH n (Nat.le_refl n) .param st s1 _ rfl (unhide HP0) (unhide H4)) ?_
  rintro e w6 ⟨rfl, p1, b1⟩; have HP7 := hide p1; have BB8 := hide ((unhide B0).trans b1); clear p1 b1
  go_wp2_with fail
  go_loopg [] n (fun m wr => ∃ sk, m ≤ n ∧ PS b tv toks wr sk ∧ P toks m .paramsL sk = some st' ∧ Below b w wr)
  case atStart => exact ⟨s1, Nat.le_refl _, unhide HP7, unhide H5, unhide BB8⟩
  case round =>
    obtain ⟨sk, hm, hPk, hE, hBk⟩ := hrel
    cases gk with
    | zero => cases hE
    | succ m =>
    have HPk := hide hPk
    have HBk := hide hBk
    have HEk : Hid _ := hE
    clear hPk hBk hE
    cases cq : kq toks sk [44] with
    | true =>
      have q : ((kindL toks sk).toList == [44]) = true := cq
      go_wp2_with fail
      refine (kq_any (unhide HPk)).mono ?_
      rintro e w1 ⟨rfl, hw⟩; have hw := hw.symm; subst hw
      have X9 := (if_pos cq).symm.trans (unhide HEk)
      clear HEk
      simp only [Option.bind_eq_bind, Option.bind_eq_some_iff] at X9
      obtain ⟨s10, h11, s12, h13, h14⟩ := X9
      have H15 : Hid _ := h11
      clear h11
      have H16 : Hid _ := h13
      clear h13
      have H17 : Hid _ := h14
      clear h14
      go_wp2_with fail
      refine (takeM_any (unhide HPk) (unhide H15)).mono ?_
      rintro e w18 ⟨rfl, p1, b1⟩; have HP19 := hide p1; have BB20 := hide ((unhide HBk).trans b1); clear p1 b1
      go_wp2_with fail
      refine Calls.mono (unhide IHH m (by omega) .param s10 s12 _ rfl (unhide HP19) (unhide H16)) ?_
      rintro e w21 ⟨rfl, p1, b1⟩; have HP22 := hide p1; have BB23 := hide ((unhide BB20).trans b1); clear p1 b1
      go_wp2_with fail
      go_roundg m
      case measure => exact Nat.lt_succ_self m
      case rel => exact ⟨s12, by omega, unhide HP22, unhide H17, unhide BB23⟩
    | false =>
      have q : ((kindL toks sk).toList == [44]) = false := cq
      have X24 := (if_neg (show ¬ kq toks sk [44] = true by rw [cq]; exact Bool.false_ne_true)).symm.trans (unhide HEk)
      clear HEk
      have e25 := Option.some.inj X24
      clear X24
      subst e25
      clear cq
      go_wp2_with fail
      refine (kq_any (unhide HPk)).mono ?_
      rintro e w1 ⟨rfl, hw⟩; have hw := hw.symm; subst hw
      go_wp2_with fail
      first | go_end0 | refine bodyPost_ret (results_none (by rfl) _ _ _) rfl ?_
      exact ⟨rfl, unhide HPk, unhide HBk⟩

set_option maxHeartbeats 1600000 in
theorem values_step {b : Nat} {tv : Value} {toks : List Tok} {n : Nat} (ih : ∀ m, m ≤ n → IH b tv toks m) {w : World} {st st' : PSt} (hP : PS b tv toks w st) (h : P toks (n + 1) .values st = some st') : Does 106 b tv toks w st' := by
  have IHH := hide ih
  have HP0 := hide hP
  have B0 := hide (Below.refl b w)
  clear hP ih
  rw [P] at h
  simp only [Option.bind_eq_bind, Option.bind_eq_some_iff] at h
  obtain ⟨s1, h2, h3⟩ := h
  have H4 : Hid _ := h2
  clear h2
  have H5 : Hid _ := h3
  clear h3
  unfold Does
  go_enter Tryd.func106, Tryd.ntmps106
  go_wp2_with fail
  refine Calls.mono (unhide IHH n (Nat.le_refl n) .value st s1 _ rfl (unhide HP0) (unhide H4)) ?_
  rintro e w6 ⟨rfl, p1, b1⟩; have HP7 := hide p1; have BB8 := hide ((unhide B0).trans b1); clear p1 b1
  go_wp2_with fail
  go_loopg [] n (fun m wr => ∃ sk, m ≤ n ∧ PS b tv toks wr sk ∧ P toks m .valuesL sk = some st' ∧ Below b w wr)
  case atStart => exact ⟨s1, Nat.le_refl _, unhide HP7, unhide H5, unhide BB8⟩
  case round =>
    obtain ⟨sk, hm, hPk, hE, hBk⟩ := hrel
    cases gk with
    | zero => cases hE
    | succ m =>
    have HPk := hide hPk
    have HBk := hide hBk
    have HEk : Hid _ := hE
    clear hPk hBk hE
    cases cq : kq toks sk [44] with
    | true =>
      have q : ((kindL toks sk).toList == [44]) = true := cq
      go_wp2_with fail
      refine (kq_any (unhide HPk)).mono ?_
      rintro e w1 ⟨rfl, hw⟩; have hw := hw.symm; subst hw
      have X9 := (if_pos cq).symm.trans (unhide HEk)
      clear HEk
      simp only [Option.bind_eq_bind, Option.bind_eq_some_iff] at X9
      obtain ⟨s10, h11, s12, h13, h14⟩ := X9
      have H15 : Hid _ := h11
      clear h11
      have H16 : Hid _ := h13
      clear h13
      have H17 : Hid _ := h14
      clear h14
      go_wp2_with fail
      refine (takeM_any (unhide HPk) (unhide H15)).mono ?_
      rintro e w18 ⟨rfl, p1, b1⟩; have HP19 := hide p1; have BB20 := hide ((unhide HBk).trans b1); clear p1 b1
      go_wp2_with fail
      refine Calls.mono (unhide IHH m (by omega) .value s10 s12 _ rfl (unhide HP19) (unhide H16)) ?_
      rintro e w21 ⟨rfl, p1, b1⟩; have HP22 := hide p1; have BB23 := hide ((unhide BB20).trans b1); clear p1 b1
      go_wp2_with fail
      go_roundg m
      case measure => exact Nat.lt_succ_self m
      case rel => exact ⟨s12, by omega, unhide HP22, unhide H17, unhide BB23⟩
    | false =>
      have q : ((kindL toks sk).toList == [44]) = false := cq
      have X24 := (if_neg (show ¬ kq toks sk [44] = true by rw [cq]; exact Bool.false_ne_true)).symm.trans (unhide HEk)
      clear HEk
      have e25 := Option.some.inj X24
      clear X24
      subst e25
      clear cq
      go_wp2_with fail
      refine (kq_any (unhide HPk)).mono ?_
      rintro e w1 ⟨rfl, hw⟩; have hw := hw.symm; subst hw
      go_wp2_with fail
      first | go_end0 | refine bodyPost_ret (results_none (by rfl) _ _ _) rfl ?_
      exact ⟨rfl, unhide HPk, unhide HBk⟩

end Go.Proofs.YtdaneedflpfeaaaDoor
