import Derived.Test.YtdaneedflpfeaabGreatDoorTwin
namespace Go.Proofs.YtdaneedflpfeaabGreatDoor
set_option maxRecDepth 100000
open Go.RowKit

set_option maxHeartbeats 1600000 in
theorem param_step {b : Nat} {tv : Value} {toks : List Tok} {n : Nat} (ih : ∀ m, m ≤ n → IH b tv toks m) {w : World} {st st' : PSt} (hP : PS b tv toks w st) (h : P toks (n + 1) .param st = some st') : Does 80 b tv toks w st' := by
  have IHH := hide ih
  have HP0 := hide hP
  have B0 := hide (Below.refl b w)
  clear hP ih
  rw [P] at h
  simp only [Option.bind_eq_bind, Option.bind_eq_some_iff] at h
  obtain ⟨s1, h2, s3, h4, s5, h6, h7⟩ := h
  have H8 : Hid _ := h2
  clear h2
  have H9 : Hid _ := h4
  clear h4
  have H10 : Hid _ := h6
  clear h6
  have H11 : Hid _ := h7
  clear h7
  unfold Does
  go_enter Tryz.func80, Tryz.ntmps80
  go_wp2_with fail
  refine (openM_any (unhide HP0) (unhide H8)).mono ?_
  rintro e w12 ⟨rfl, p1, b1⟩; have HP13 := hide p1; have BB14 := hide ((unhide B0).trans b1); clear p1 b1
  go_wp2_with fail
  refine (needM_any (unhide HP13) (unhide H9)).mono ?_
  rintro e w15 ⟨rfl, p1, b1⟩; have HP16 := hide p1; have BB17 := hide ((unhide BB14).trans b1); clear p1 b1
  go_wp2_with fail
  refine (needM_any (unhide HP16) (unhide H10)).mono ?_
  rintro e w18 ⟨rfl, p1, b1⟩; have HP19 := hide p1; have BB20 := hide ((unhide BB17).trans b1); clear p1 b1
  go_wp2_with fail
  refine (closeM_any (unhide HP19) (unhide H11)).mono ?_
  rintro e w21 ⟨rfl, p1, b1⟩; have HP22 := hide p1; have BB23 := hide ((unhide BB20).trans b1); clear p1 b1
  go_wp2_with fail
  first | go_end0 | refine bodyPost_ret (results_none (by rfl) _ _ _) rfl ?_
  exact ⟨rfl, unhide HP22, unhide BB23⟩

set_option maxHeartbeats 1600000 in
theorem emptyS_step {b : Nat} {tv : Value} {toks : List Tok} {n : Nat} (ih : ∀ m, m ≤ n → IH b tv toks m) {w : World} {st st' : PSt} (hP : PS b tv toks w st) (h : P toks (n + 1) .emptyS st = some st') : Does 84 b tv toks w st' := by
  have IHH := hide ih
  have HP0 := hide hP
  have B0 := hide (Below.refl b w)
  clear hP ih
  rw [P] at h
  simp only [Option.bind_eq_bind, Option.bind_eq_some_iff] at h
  obtain ⟨s1, h2, s3, h4, h5⟩ := h
  have H6 : Hid _ := h2
  clear h2
  have H7 : Hid _ := h4
  clear h4
  have H8 : Hid _ := h5
  clear h5
  unfold Does
  go_enter Tryz.func84, Tryz.ntmps84
  go_wp2_with fail
  refine (openM_any (unhide HP0) (unhide H6)).mono ?_
  rintro e w9 ⟨rfl, p1, b1⟩; have HP10 := hide p1; have BB11 := hide ((unhide B0).trans b1); clear p1 b1
  go_wp2_with fail
  refine (needM_any (unhide HP10) (unhide H7)).mono ?_
  rintro e w12 ⟨rfl, p1, b1⟩; have HP13 := hide p1; have BB14 := hide ((unhide BB11).trans b1); clear p1 b1
  go_wp2_with fail
  refine (closeM_any (unhide HP13) (unhide H8)).mono ?_
  rintro e w15 ⟨rfl, p1, b1⟩; have HP16 := hide p1; have BB17 := hide ((unhide BB14).trans b1); clear p1 b1
  go_wp2_with fail
  first | go_end0 | refine bodyPost_ret (results_none (by rfl) _ _ _) rfl ?_
  exact ⟨rfl, unhide HP16, unhide BB17⟩

set_option maxHeartbeats 1600000 in
theorem whileS_step {b : Nat} {tv : Value} {toks : List Tok} {n : Nat} (ih : ∀ m, m ≤ n → IH b tv toks m) {w : World} {st st' : PSt} (hP : PS b tv toks w st) (h : P toks (n + 1) .whileS st = some st') : Does 86 b tv toks w st' := by
  have IHH := hide ih
  have HP0 := hide hP
  have B0 := hide (Below.refl b w)
  clear hP ih
  rw [P] at h
  simp only [Option.bind_eq_bind, Option.bind_eq_some_iff] at h
  obtain ⟨s1, h2, s3, h4, s5, h6, s7, h8, h9⟩ := h
  have H10 : Hid _ := h2
  clear h2
  have H11 : Hid _ := h4
  clear h4
  have H12 : Hid _ := h6
  clear h6
  have H13 : Hid _ := h8
  clear h8
  have H14 : Hid _ := h9
  clear h9
  unfold Does
  go_enter Tryz.func86, Tryz.ntmps86
  go_wp2_with fail
  refine (openM_any (unhide HP0) (unhide H10)).mono ?_
  rintro e w15 ⟨rfl, p1, b1⟩; have HP16 := hide p1; have BB17 := hide ((unhide B0).trans b1); clear p1 b1
  go_wp2_with fail
  refine (needM_any (unhide HP16) (unhide H11)).mono ?_
  rintro e w18 ⟨rfl, p1, b1⟩; have HP19 := hide p1; have BB20 := hide ((unhide BB17).trans b1); clear p1 b1
  go_wp2_with fail
  refine Calls.mono (unhide IHH n (Nat.le_refl n) .condition s3 s5 _ rfl (unhide HP19) (unhide H12)) ?_
  rintro e w21 ⟨rfl, p1, b1⟩; have HP22 := hide p1; have BB23 := hide ((unhide BB20).trans b1); clear p1 b1
  go_wp2_with fail
  refine Calls.mono (unhide IHH n (Nat.le_refl n) .statement s5 s7 _ rfl (unhide HP22) (unhide H13)) ?_
  rintro e w24 ⟨rfl, p1, b1⟩; have HP25 := hide p1; have BB26 := hide ((unhide BB23).trans b1); clear p1 b1
  go_wp2_with fail
  refine (closeM_any (unhide HP25) (unhide H14)).mono ?_
  rintro e w27 ⟨rfl, p1, b1⟩; have HP28 := hide p1; have BB29 := hide ((unhide BB26).trans b1); clear p1 b1
  go_wp2_with fail
  first | go_end0 | refine bodyPost_ret (results_none (by rfl) _ _ _) rfl ?_
  exact ⟨rfl, unhide HP28, unhide BB29⟩

set_option maxHeartbeats 1600000 in
theorem expr_step {b : Nat} {tv : Value} {toks : List Tok} {n : Nat} (ih : ∀ m, m ≤ n → IH b tv toks m) {w : World} {st st' : PSt} (hP : PS b tv toks w st) (h : P toks (n + 1) .expr st = some st') : Does 89 b tv toks w st' := by
  have IHH := hide ih
  have HP0 := hide hP
  have B0 := hide (Below.refl b w)
  clear hP ih
  rw [P] at h
  simp only [Option.bind_eq_bind, Option.bind_eq_some_iff] at h
  obtain ⟨s1, h2, s3, h4, s5, h6, h7⟩ := h
  have H8 : Hid _ := h2
  clear h2
  have H9 : Hid _ := h4
  clear h4
  have H10 : Hid _ := h6
  clear h6
  have H11 : Hid _ := h7
  clear h7
  unfold Does
  go_enter Tryz.func89, Tryz.ntmps89
  go_wp2_with fail
  refine (openM_any (unhide HP0) (unhide H8)).mono ?_
  rintro e w12 ⟨rfl, p1, b1⟩; have HP13 := hide p1; have BB14 := hide ((unhide B0).trans b1); clear p1 b1
  go_wp2_with fail
  refine Calls.mono (unhide IHH n (Nat.le_refl n) .value s1 s3 _ rfl (unhide HP13) (unhide H9)) ?_
  rintro e w15 ⟨rfl, p1, b1⟩; have HP16 := hide p1; have BB17 := hide ((unhide BB14).trans b1); clear p1 b1
  go_wp2_with fail
  refine (needM_any (unhide HP16) (unhide H10)).mono ?_
  rintro e w18 ⟨rfl, p1, b1⟩; have HP19 := hide p1; have BB20 := hide ((unhide BB17).trans b1); clear p1 b1
  go_wp2_with fail
  refine (closeM_any (unhide HP19) (unhide H11)).mono ?_
  rintro e w21 ⟨rfl, p1, b1⟩; have HP22 := hide p1; have BB23 := hide ((unhide BB20).trans b1); clear p1 b1
  go_wp2_with fail
  first | go_end0 | refine bodyPost_ret (results_none (by rfl) _ _ _) rfl ?_
  exact ⟨rfl, unhide HP22, unhide BB23⟩

set_option maxHeartbeats 1600000 in
theorem condition_step {b : Nat} {tv : Value} {toks : List Tok} {n : Nat} (ih : ∀ m, m ≤ n → IH b tv toks m) {w : World} {st st' : PSt} (hP : PS b tv toks w st) (h : P toks (n + 1) .condition st = some st') : Does 92 b tv toks w st' := by
  have IHH := hide ih
  have HP0 := hide hP
  have B0 := hide (Below.refl b w)
  clear hP ih
  rw [P] at h
  simp only [Option.bind_eq_bind, Option.bind_eq_some_iff] at h
  obtain ⟨s1, h2, s3, h4, h5⟩ := h
  have H6 : Hid _ := h2
  clear h2
  have H7 : Hid _ := h4
  clear h4
  have H8 : Hid _ := h5
  clear h5
  unfold Does
  go_enter Tryz.func92, Tryz.ntmps92
  go_wp2_with fail
  refine (needM_any (unhide HP0) (unhide H6)).mono ?_
  rintro e w9 ⟨rfl, p1, b1⟩; have HP10 := hide p1; have BB11 := hide ((unhide B0).trans b1); clear p1 b1
  go_wp2_with fail
  refine Calls.mono (unhide IHH n (Nat.le_refl n) .value s1 s3 _ rfl (unhide HP10) (unhide H7)) ?_
  rintro e w12 ⟨rfl, p1, b1⟩; have HP13 := hide p1; have BB14 := hide ((unhide BB11).trans b1); clear p1 b1
  go_wp2_with fail
  refine (needM_any (unhide HP13) (unhide H8)).mono ?_
  rintro e w15 ⟨rfl, p1, b1⟩; have HP16 := hide p1; have BB17 := hide ((unhide BB14).trans b1); clear p1 b1
  go_wp2_with fail
  first | go_end0 | refine bodyPost_ret (results_none (by rfl) _ _ _) rfl ?_
  exact ⟨rfl, unhide HP16, unhide BB17⟩

set_option maxHeartbeats 1600000 in
theorem set_step {b : Nat} {tv : Value} {toks : List Tok} {n : Nat} (ih : ∀ m, m ≤ n → IH b tv toks m) {w : World} {st st' : PSt} (hP : PS b tv toks w st) (h : P toks (n + 1) .set st = some st') : Does 99 b tv toks w st' := by
  have IHH := hide ih
  have HP0 := hide hP
  have B0 := hide (Below.refl b w)
  clear hP ih
  rw [P] at h
  simp only [Option.bind_eq_bind, Option.bind_eq_some_iff] at h
  obtain ⟨s1, h2, s3, h4, s5, h6, s7, h8, h9⟩ := h
  have H10 : Hid _ := h2
  clear h2
  have H11 : Hid _ := h4
  clear h4
  have H12 : Hid _ := h6
  clear h6
  have H13 : Hid _ := h8
  clear h8
  have H14 : Hid _ := h9
  clear h9
  unfold Does
  go_enter Tryz.func99, Tryz.ntmps99
  go_wp2_with fail
  refine (openM_any (unhide HP0) (unhide H10)).mono ?_
  rintro e w15 ⟨rfl, p1, b1⟩; have HP16 := hide p1; have BB17 := hide ((unhide B0).trans b1); clear p1 b1
  go_wp2_with fail
  refine (needM_any (unhide HP16) (unhide H11)).mono ?_
  rintro e w18 ⟨rfl, p1, b1⟩; have HP19 := hide p1; have BB20 := hide ((unhide BB17).trans b1); clear p1 b1
  go_wp2_with fail
  refine (needM_any (unhide HP19) (unhide H12)).mono ?_
  rintro e w21 ⟨rfl, p1, b1⟩; have HP22 := hide p1; have BB23 := hide ((unhide BB20).trans b1); clear p1 b1
  go_wp2_with fail
  refine Calls.mono (unhide IHH n (Nat.le_refl n) .value s5 s7 _ rfl (unhide HP22) (unhide H13)) ?_
  rintro e w24 ⟨rfl, p1, b1⟩; have HP25 := hide p1; have BB26 := hide ((unhide BB23).trans b1); clear p1 b1
  go_wp2_with fail
  refine (closeM_any (unhide HP25) (unhide H14)).mono ?_
  rintro e w27 ⟨rfl, p1, b1⟩; have HP28 := hide p1; have BB29 := hide ((unhide BB26).trans b1); clear p1 b1
  go_wp2_with fail
  first | go_end0 | refine bodyPost_ret (results_none (by rfl) _ _ _) rfl ?_
  exact ⟨rfl, unhide HP28, unhide BB29⟩

set_option maxHeartbeats 1600000 in
theorem neg_step {b : Nat} {tv : Value} {toks : List Tok} {n : Nat} (ih : ∀ m, m ≤ n → IH b tv toks m) {w : World} {st st' : PSt} (hP : PS b tv toks w st) (h : P toks (n + 1) .neg st = some st') : Does 117 b tv toks w st' := by
  have IHH := hide ih
  have HP0 := hide hP
  have B0 := hide (Below.refl b w)
  clear hP ih
  rw [P] at h
  simp only [Option.bind_eq_bind, Option.bind_eq_some_iff] at h
  obtain ⟨s1, h2, s3, h4, s5, h6, h7⟩ := h
  have H8 : Hid _ := h2
  clear h2
  have H9 : Hid _ := h4
  clear h4
  have H10 : Hid _ := h6
  clear h6
  have H11 : Hid _ := h7
  clear h7
  unfold Does
  go_enter Tryz.func117, Tryz.ntmps117
  go_wp2_with fail
  refine (openM_any (unhide HP0) (unhide H8)).mono ?_
  rintro e w12 ⟨rfl, p1, b1⟩; have HP13 := hide p1; have BB14 := hide ((unhide B0).trans b1); clear p1 b1
  go_wp2_with fail
  refine (takeM_any (unhide HP13) (unhide H9)).mono ?_
  rintro e w15 ⟨rfl, p1, b1⟩; have HP16 := hide p1; have BB17 := hide ((unhide BB14).trans b1); clear p1 b1
  go_wp2_with fail
  refine Calls.mono (unhide IHH n (Nat.le_refl n) .single s3 s5 _ rfl (unhide HP16) (unhide H10)) ?_
  rintro e w18 ⟨rfl, p1, b1⟩; have HP19 := hide p1; have BB20 := hide ((unhide BB17).trans b1); clear p1 b1
  go_wp2_with fail
  refine (closeM_any (unhide HP19) (unhide H11)).mono ?_
  rintro e w21 ⟨rfl, p1, b1⟩; have HP22 := hide p1; have BB23 := hide ((unhide BB20).trans b1); clear p1 b1
  go_wp2_with fail
  first | go_end0 | refine bodyPost_ret (results_none (by rfl) _ _ _) rfl ?_
  exact ⟨rfl, unhide HP22, unhide BB23⟩

set_option maxHeartbeats 1600000 in
theorem group_step {b : Nat} {tv : Value} {toks : List Tok} {n : Nat} (ih : ∀ m, m ≤ n → IH b tv toks m) {w : World} {st st' : PSt} (hP : PS b tv toks w st) (h : P toks (n + 1) .group st = some st') : Does 118 b tv toks w st' := by
  have IHH := hide ih
  have HP0 := hide hP
  have B0 := hide (Below.refl b w)
  clear hP ih
  rw [P] at h
  simp only [Option.bind_eq_bind, Option.bind_eq_some_iff] at h
  obtain ⟨s1, h2, s3, h4, s5, h6, s7, h8, h9⟩ := h
  have H10 : Hid _ := h2
  clear h2
  have H11 : Hid _ := h4
  clear h4
  have H12 : Hid _ := h6
  clear h6
  have H13 : Hid _ := h8
  clear h8
  have H14 : Hid _ := h9
  clear h9
  unfold Does
  go_enter Tryz.func118, Tryz.ntmps118
  go_wp2_with fail
  refine (openM_any (unhide HP0) (unhide H10)).mono ?_
  rintro e w15 ⟨rfl, p1, b1⟩; have HP16 := hide p1; have BB17 := hide ((unhide B0).trans b1); clear p1 b1
  go_wp2_with fail
  refine (needM_any (unhide HP16) (unhide H11)).mono ?_
  rintro e w18 ⟨rfl, p1, b1⟩; have HP19 := hide p1; have BB20 := hide ((unhide BB17).trans b1); clear p1 b1
  go_wp2_with fail
  refine Calls.mono (unhide IHH n (Nat.le_refl n) .value s3 s5 _ rfl (unhide HP19) (unhide H12)) ?_
  rintro e w21 ⟨rfl, p1, b1⟩; have HP22 := hide p1; have BB23 := hide ((unhide BB20).trans b1); clear p1 b1
  go_wp2_with fail
  refine (needM_any (unhide HP22) (unhide H13)).mono ?_
  rintro e w24 ⟨rfl, p1, b1⟩; have HP25 := hide p1; have BB26 := hide ((unhide BB23).trans b1); clear p1 b1
  go_wp2_with fail
  refine (closeM_any (unhide HP25) (unhide H14)).mono ?_
  rintro e w27 ⟨rfl, p1, b1⟩; have HP28 := hide p1; have BB29 := hide ((unhide BB26).trans b1); clear p1 b1
  go_wp2_with fail
  first | go_end0 | refine bodyPost_ret (results_none (by rfl) _ _ _) rfl ?_
  exact ⟨rfl, unhide HP28, unhide BB29⟩

set_option maxHeartbeats 1600000 in
theorem params_step {b : Nat} {tv : Value} {toks : List Tok} {n : Nat} (ih : ∀ m, m ≤ n → IH b tv toks m) {w : World} {st st' : PSt} (hP : PS b tv toks w st) (h : P toks (n + 1) .params st = some st') : Does 62 b tv toks w st' := by
  have IHH := hide ih
  have HP0 := hide hP
  have B0 := hide (Below.refl b w)
  clear hP ih
  rw [P] at h
  simp only [Option.bind_eq_bind, Option.bind_eq_some_iff] at h
  obtain ⟨s1, h2, h3⟩ := h
  have H4 : Hid _ := h2
  clear h2
  have H5 : Hid _ := h3
  clear h3
  unfold Does
  go_enter Tryz.func62, Tryz.ntmps62
  go_wp2_with fail
  refine Calls.mono (unhide IHH n (Nat.le_refl n) .param st s1 _ rfl (unhide HP0) (unhide H4)) ?_
  rintro e w6 ⟨rfl, p1, b1⟩; have HP7 := hide p1; have BB8 := hide ((unhide B0).trans b1); clear p1 b1
  go_wp2_with fail
  go_loopg [] n (fun m wr => ∃ sk, m ≤ n ∧ PS b tv toks wr sk ∧ P toks m .paramsL sk = some st' ∧ Below b w wr)
  case atStart => exact ⟨s1, Nat.le_refl _, unhide HP7, unhide H5, unhide BB8⟩
  case round =>
    obtain ⟨sk, hm, hPk, hE, hBk⟩ := hrel
    cases gk with
    | zero => cases hE
    | succ m =>
    have HPk := hide hPk
    have HBk := hide hBk
    have HEk : Hid _ := hE
    clear hPk hBk hE
    cases cq : kq toks sk [44] with
    | true =>
      have q : ((kindL toks sk).toList == [44]) = true := cq
      go_wp2_with fail
      refine (kq_any (unhide HPk)).mono ?_
      rintro e w1 ⟨rfl, hw⟩; have hw := hw.symm; subst hw
      have X9 := (if_pos cq).symm.trans (unhide HEk)
      clear HEk
      simp only [Option.bind_eq_bind, Option.bind_eq_some_iff] at X9
      obtain ⟨s10, h11, s12, h13, h14⟩ := X9
      have H15 : Hid _ := h11
      clear h11
      have H16 : Hid _ := h13
      clear h13
      have H17 : Hid _ := h14
      clear h14
      go_wp2_with fail
      refine (takeM_any (unhide HPk) (unhide H15)).mono ?_
      rintro e w18 ⟨rfl, p1, b1⟩; have HP19 := hide p1; have BB20 := hide ((unhide HBk).trans b1); clear p1 b1
      go_wp2_with fail
      refine Calls.mono (unhide IHH m (by omega) .param s10 s12 _ rfl (unhide HP19) (unhide H16)) ?_
      rintro e w21 ⟨rfl, p1, b1⟩; have HP22 := hide p1; have BB23 := hide ((unhide BB20).trans b1); clear p1 b1
      go_wp2_with fail
      go_roundg m
      case measure => exact Nat.lt_succ_self m
      case rel => exact ⟨s12, by omega, unhide HP22, unhide H17, unhide BB23⟩
    | false =>
      have q : ((kindL toks sk).toList == [44]) = false := cq
      have X24 := (if_neg (show ¬ kq toks sk [44] = true by rw [cq]; exact Bool.false_ne_true)).symm.trans (unhide HEk)
      clear HEk
      have e25 := Option.some.inj X24
      clear X24
      subst e25
      clear cq
      go_wp2_with fail
      refine (kq_any (unhide HPk)).mono ?_
      rintro e w1 ⟨rfl, hw⟩; have hw := hw.symm; subst hw
      go_wp2_with fail
      first | go_end0 | refine bodyPost_ret (results_none (by rfl) _ _ _) rfl ?_
      exact ⟨rfl, unhide HPk, unhide HBk⟩

set_option maxHeartbeats 1600000 in
theorem values_step {b : Nat} {tv : Value} {toks : List Tok} {n : Nat} (ih : ∀ m, m ≤ n → IH b tv toks m) {w : World} {st st' : PSt} (hP : PS b tv toks w st) (h : P toks (n + 1) .values st = some st') : Does 120 b tv toks w st' := by
  have IHH := hide ih
  have HP0 := hide hP
  have B0 := hide (Below.refl b w)
  clear hP ih
  rw [P] at h
  simp only [Option.bind_eq_bind, Option.bind_eq_some_iff] at h
  obtain ⟨s1, h2, h3⟩ := h
  have H4 : Hid _ := h2
  clear h2
  have H5 : Hid _ := h3
  clear h3
  unfold Does
  go_enter Tryz.func120, Tryz.ntmps120
  go_wp2_with fail
  refine Calls.mono (unhide IHH n (Nat.le_refl n) .value st s1 _ rfl (unhide HP0) (unhide H4)) ?_
  rintro e w6 ⟨rfl, p1, b1⟩; have HP7 := hide p1; have BB8 := hide ((unhide B0).trans b1); clear p1 b1
  go_wp2_with fail
  go_loopg [] n (fun m wr => ∃ sk, m ≤ n ∧ PS b tv toks wr sk ∧ P toks m .valuesL sk = some st' ∧ Below b w wr)
  case atStart => exact ⟨s1, Nat.le_refl _, unhide HP7, unhide H5, unhide BB8⟩
  case round =>
    obtain ⟨sk, hm, hPk, hE, hBk⟩ := hrel
    cases gk with
    | zero => cases hE
    | succ m =>
    have HPk := hide hPk
    have HBk := hide hBk
    have HEk : Hid _ := hE
    clear hPk hBk hE
    cases cq : kq toks sk [44] with
    | true =>
      have q : ((kindL toks sk).toList == [44]) = true := cq
      go_wp2_with fail
      refine (kq_any (unhide HPk)).mono ?_
      rintro e w1 ⟨rfl, hw⟩; have hw := hw.symm; subst hw
      have X9 := (if_pos cq).symm.trans (unhide HEk)
      clear HEk
      simp only [Option.bind_eq_bind, Option.bind_eq_some_iff] at X9
      obtain ⟨s10, h11, s12, h13, h14⟩ := X9
      have H15 : Hid _ := h11
      clear h11
      have H16 : Hid _ := h13
      clear h13
      have H17 : Hid _ := h14
      clear h14
      go_wp2_with fail
      refine (takeM_any (unhide HPk) (unhide H15)).mono ?_
      rintro e w18 ⟨rfl, p1, b1⟩; have HP19 := hide p1; have BB20 := hide ((unhide HBk).trans b1); clear p1 b1
      go_wp2_with fail
      refine Calls.mono (unhide IHH m (by omega) .value s10 s12 _ rfl (unhide HP19) (unhide H16)) ?_
      rintro e w21 ⟨rfl, p1, b1⟩; have HP22 := hide p1; have BB23 := hide ((unhide BB20).trans b1); clear p1 b1
      go_wp2_with fail
      go_roundg m
      case measure => exact Nat.lt_succ_self m
      case rel => exact ⟨s12, by omega, unhide HP22, unhide H17, unhide BB23⟩
    | false =>
      have q : ((kindL toks sk).toList == [44]) = false := cq
      have X24 := (if_neg (show ¬ kq toks sk [44] = true by rw [cq]; exact Bool.false_ne_true)).symm.trans (unhide HEk)
      clear HEk
      have e25 := Option.some.inj X24
      clear X24
      subst e25
      clear cq
      go_wp2_with fail
      refine (kq_any (unhide HPk)).mono ?_
      rintro e w1 ⟨rfl, hw⟩; have hw := hw.symm; subst hw
      go_wp2_with fail
      first | go_end0 | refine bodyPost_ret (results_none (by rfl) _ _ _) rfl ?_
      exact ⟨rfl, unhide HPk, unhide HBk⟩

end Go.Proofs.YtdaneedflpfeaabGreatDoor

namespace Go.Proofs.YtdaneedflpfeaabGreatDoor
set_option maxRecDepth 100000
open Go.RowKit

set_option maxHeartbeats 1600000 in
theorem program_step {b : Nat} {tv : Value} {toks : List Tok} {n : Nat} (ih : ∀ m, m ≤ n → IH b tv toks m) {w : World} {st st' : PSt} (hP : PS b tv toks w st) (h : P toks (n + 1) .program st = some st') : Does 19 b tv toks w st' := by
  have IHH := hide ih
  have HP0 := hide hP
  have B0 := hide (Below.refl b w)
  clear hP ih
  rw [P] at h
  simp only [Option.bind_eq_bind, Option.bind_eq_some_iff] at h
  obtain ⟨s1, h2, s3, h4, s5, h6, h7⟩ := h
  have H8 : Hid _ := h2
  clear h2
  have H9 : Hid _ := h4
  clear h4
  have H10 : Hid _ := h6
  clear h6
  have H11 : Hid _ := h7
  clear h7
  unfold Does
  go_enter Tryz.func19, Tryz.ntmps19
  go_wp2_with fail
  refine (openM_any (unhide HP0) (unhide H8)).mono ?_
  rintro e w12 ⟨rfl, p1, b1⟩; have HP13 := hide p1; have BB14 := hide ((unhide B0).trans b1); clear p1 b1
  go_wp2_with fail
  go_loopg [] n (fun m wr => ∃ sk, m ≤ n ∧ PS b tv toks wr sk ∧ P toks m .funcs sk = some s3 ∧ Below b w wr)
  case atStart => exact ⟨s1, Nat.le_refl _, unhide HP13, unhide H9, unhide BB14⟩
  case round =>
    obtain ⟨sk, hm, hPk, hE, hBk⟩ := hrel
    cases gk with
    | zero => cases hE
    | succ m =>
    have HPk := hide hPk
    have HBk := hide hBk
    have HEk : Hid _ := hE
    obtain ⟨nv, c0, c1, c2, c3, c4, hf, hown, hblk⟩ := hPk.cells
    clear hPk hBk hE hown hblk c0 c1 c3 c4 hf
    cases hfl : sk.failed with
    | true =>
      rw [hfl] at c2
      have X15 := (if_neg (show ¬ (sk.failed == false && !kq toks sk [101, 110, 100]) = true by rw [hfl]; exact Bool.false_ne_true)).symm.trans (unhide HEk)
      clear HEk
      have e16 := Option.some.inj X15
      clear X15
      subst e16
      clear hfl
      go_wp2_with fail
      refine (needM_any (unhide HPk) (unhide H10)).mono ?_
      rintro e w17 ⟨rfl, p1, b1⟩; have HP18 := hide p1; have BB19 := hide ((unhide HBk).trans b1); clear p1 b1
      go_wp2_with fail
      refine (closeM_any (unhide HP18) (unhide H11)).mono ?_
      rintro e w20 ⟨rfl, p1, b1⟩; have HP21 := hide p1; have BB22 := hide ((unhide BB19).trans b1); clear p1 b1
      go_wp2_with fail
      first | go_end0 | refine bodyPost_ret (results_none (by rfl) _ _ _) rfl ?_
      exact ⟨rfl, unhide HP21, unhide BB22⟩
    | false =>
      rw [hfl] at c2
      cases cq : kq toks sk [101, 110, 100] with
      | true =>
        have q : ((kindL toks sk).toList == [101, 110, 100]) = true := cq
        have X23 := (if_neg (show ¬ (sk.failed == false && !kq toks sk [101, 110, 100]) = true by rw [cq]; simp)).symm.trans (unhide HEk)
        clear HEk
        have e24 := Option.some.inj X23
        clear X23
        subst e24
        clear cq hfl
        go_wp2_with fail
        refine (kq_any (unhide HPk)).mono ?_
        rintro e w1 ⟨rfl, hw⟩; have hw := hw.symm; subst hw
        go_wp2_with fail
        refine (needM_any (unhide HPk) (unhide H10)).mono ?_
        rintro e w25 ⟨rfl, p1, b1⟩; have HP26 := hide p1; have BB27 := hide ((unhide HBk).trans b1); clear p1 b1
        go_wp2_with fail
        refine (closeM_any (unhide HP26) (unhide H11)).mono ?_
        rintro e w28 ⟨rfl, p1, b1⟩; have HP29 := hide p1; have BB30 := hide ((unhide BB27).trans b1); clear p1 b1
        go_wp2_with fail
        first | go_end0 | refine bodyPost_ret (results_none (by rfl) _ _ _) rfl ?_
        exact ⟨rfl, unhide HP29, unhide BB30⟩
      | false =>
        have q : ((kindL toks sk).toList == [101, 110, 100]) = false := cq
        have hc : (sk.failed == false && !kq toks sk [101, 110, 100]) = true := by rw [hfl, cq]; rfl
        clear cq hfl
        go_wp2_with fail
        refine (kq_any (unhide HPk)).mono ?_
        rintro e w1 ⟨rfl, hw⟩; have hw := hw.symm; subst hw
        have X31 := (if_pos hc).symm.trans (unhide HEk)
        clear HEk
        simp only [Option.bind_eq_bind, Option.bind_eq_some_iff] at X31
        obtain ⟨s32, h33, h34⟩ := X31
        have H35 : Hid _ := h33
        clear h33
        have H36 : Hid _ := h34
        clear h34
        go_wp2_with fail
        refine Calls.mono (unhide IHH m (by omega) .function sk s32 _ rfl (unhide HPk) (unhide H35)) ?_
        rintro e w37 ⟨rfl, p1, b1⟩; have HP38 := hide p1; have BB39 := hide ((unhide HBk).trans b1); clear p1 b1
        go_wp2_with fail
        go_roundg m
        case measure => exact Nat.lt_succ_self m
        case rel => exact ⟨s32, by omega, unhide HP38, unhide H36, unhide BB39⟩

set_option maxHeartbeats 1600000 in
theorem block_step {b : Nat} {tv : Value} {toks : List Tok} {n : Nat} (ih : ∀ m, m ≤ n → IH b tv toks m) {w : World} {st st' : PSt} (hP : PS b tv toks w st) (h : P toks (n + 1) .block st = some st') : Does 63 b tv toks w st' := by
  have IHH := hide ih
  have HP0 := hide hP
  have B0 := hide (Below.refl b w)
  clear hP ih
  rw [P] at h
  simp only [Option.bind_eq_bind, Option.bind_eq_some_iff] at h
  obtain ⟨s1, h2, s3, h4, s5, h6, s7, h8, h9⟩ := h
  have H10 : Hid _ := h2
  clear h2
  have H11 : Hid _ := h4
  clear h4
  have H12 : Hid _ := h6
  clear h6
  have H13 : Hid _ := h8
  clear h8
  have H14 : Hid _ := h9
  clear h9
  unfold Does
  go_enter Tryz.func63, Tryz.ntmps63
  go_wp2_with fail
  refine (openM_any (unhide HP0) (unhide H10)).mono ?_
  rintro e w15 ⟨rfl, p1, b1⟩; have HP16 := hide p1; have BB17 := hide ((unhide B0).trans b1); clear p1 b1
  go_wp2_with fail
  refine (needM_any (unhide HP16) (unhide H11)).mono ?_
  rintro e w18 ⟨rfl, p1, b1⟩; have HP19 := hide p1; have BB20 := hide ((unhide BB17).trans b1); clear p1 b1
  go_wp2_with fail
  go_loopg [] n (fun m wr => ∃ sk, m ≤ n ∧ PS b tv toks wr sk ∧ P toks m .stmts sk = some s5 ∧ Below b w wr)
  case atStart => exact ⟨s3, Nat.le_refl _, unhide HP19, unhide H12, unhide BB20⟩
  case round =>
    obtain ⟨sk, hm, hPk, hE, hBk⟩ := hrel
    cases gk with
    | zero => cases hE
    | succ m =>
    have HPk := hide hPk
    have HBk := hide hBk
    have HEk : Hid _ := hE
    obtain ⟨nv, c0, c1, c2, c3, c4, hf, hown, hblk⟩ := hPk.cells
    clear hPk hBk hE hown hblk c0 c1 c3 c4 hf
    cases hfl : sk.failed with
    | true =>
      rw [hfl] at c2
      have X21 := (if_neg (show ¬ (sk.failed == false && !kq toks sk [125]) = true by rw [hfl]; exact Bool.false_ne_true)).symm.trans (unhide HEk)
      clear HEk
      have e22 := Option.some.inj X21
      clear X21
      subst e22
      clear hfl
      go_wp2_with fail
      refine (needM_any (unhide HPk) (unhide H13)).mono ?_
      rintro e w23 ⟨rfl, p1, b1⟩; have HP24 := hide p1; have BB25 := hide ((unhide HBk).trans b1); clear p1 b1
      go_wp2_with fail
      refine (closeM_any (unhide HP24) (unhide H14)).mono ?_
      rintro e w26 ⟨rfl, p1, b1⟩; have HP27 := hide p1; have BB28 := hide ((unhide BB25).trans b1); clear p1 b1
      go_wp2_with fail
      first | go_end0 | refine bodyPost_ret (results_none (by rfl) _ _ _) rfl ?_
      exact ⟨rfl, unhide HP27, unhide BB28⟩
    | false =>
      rw [hfl] at c2
      cases cq : kq toks sk [125] with
      | true =>
        have q : ((kindL toks sk).toList == [125]) = true := cq
        have X29 := (if_neg (show ¬ (sk.failed == false && !kq toks sk [125]) = true by rw [cq]; simp)).symm.trans (unhide HEk)
        clear HEk
        have e30 := Option.some.inj X29
        clear X29
        subst e30
        clear cq hfl
        go_wp2_with fail
        refine (kq_any (unhide HPk)).mono ?_
        rintro e w1 ⟨rfl, hw⟩; have hw := hw.symm; subst hw
        go_wp2_with fail
        refine (needM_any (unhide HPk) (unhide H13)).mono ?_
        rintro e w31 ⟨rfl, p1, b1⟩; have HP32 := hide p1; have BB33 := hide ((unhide HBk).trans b1); clear p1 b1
        go_wp2_with fail
        refine (closeM_any (unhide HP32) (unhide H14)).mono ?_
        rintro e w34 ⟨rfl, p1, b1⟩; have HP35 := hide p1; have BB36 := hide ((unhide BB33).trans b1); clear p1 b1
        go_wp2_with fail
        first | go_end0 | refine bodyPost_ret (results_none (by rfl) _ _ _) rfl ?_
        exact ⟨rfl, unhide HP35, unhide BB36⟩
      | false =>
        have q : ((kindL toks sk).toList == [125]) = false := cq
        have hc : (sk.failed == false && !kq toks sk [125]) = true := by rw [hfl, cq]; rfl
        clear cq hfl
        go_wp2_with fail
        refine (kq_any (unhide HPk)).mono ?_
        rintro e w1 ⟨rfl, hw⟩; have hw := hw.symm; subst hw
        have X37 := (if_pos hc).symm.trans (unhide HEk)
        clear HEk
        simp only [Option.bind_eq_bind, Option.bind_eq_some_iff] at X37
        obtain ⟨s38, h39, h40⟩ := X37
        have H41 : Hid _ := h39
        clear h39
        have H42 : Hid _ := h40
        clear h40
        go_wp2_with fail
        refine Calls.mono (unhide IHH m (by omega) .statement sk s38 _ rfl (unhide HPk) (unhide H41)) ?_
        rintro e w43 ⟨rfl, p1, b1⟩; have HP44 := hide p1; have BB45 := hide ((unhide HBk).trans b1); clear p1 b1
        go_wp2_with fail
        go_roundg m
        case measure => exact Nat.lt_succ_self m
        case rel => exact ⟨s38, by omega, unhide HP44, unhide H42, unhide BB45⟩

set_option maxHeartbeats 1600000 in
theorem function_step {b : Nat} {tv : Value} {toks : List Tok} {n : Nat} (ih : ∀ m, m ≤ n → IH b tv toks m) {w : World} {st st' : PSt} (hP : PS b tv toks w st) (h : P toks (n + 1) .function st = some st') : Does 36 b tv toks w st' := by
  have IHH := hide ih
  have HP0 := hide hP
  have B0 := hide (Below.refl b w)
  clear hP ih
  rw [P] at h
  simp only [Option.bind_eq_bind, Option.bind_eq_some_iff] at h
  obtain ⟨s1, h2, s3, h4, s5, h6, s7, h8, h9⟩ := h
  have H10 : Hid _ := h2
  clear h2
  have H11 : Hid _ := h4
  clear h4
  have H12 : Hid _ := h6
  clear h6
  have H13 : Hid _ := h8
  clear h8
  have H14 : Hid _ := h9
  clear h9
  unfold Does
  go_enter Tryz.func36, Tryz.ntmps36
  go_wp2_with fail
  refine (openM_any (unhide HP0) (unhide H10)).mono ?_
  rintro e w15 ⟨rfl, p1, b1⟩; have HP16 := hide p1; have BB17 := hide ((unhide B0).trans b1); clear p1 b1
  go_wp2_with fail
  refine (needM_any (unhide HP16) (unhide H11)).mono ?_
  rintro e w18 ⟨rfl, p1, b1⟩; have HP19 := hide p1; have BB20 := hide ((unhide BB17).trans b1); clear p1 b1
  go_wp2_with fail
  refine (needM_any (unhide HP19) (unhide H12)).mono ?_
  rintro e w21 ⟨rfl, p1, b1⟩; have HP22 := hide p1; have BB23 := hide ((unhide BB20).trans b1); clear p1 b1
  go_wp2_with fail
  refine (needM_any (unhide HP22) (unhide H13)).mono ?_
  rintro e w24 ⟨rfl, p1, b1⟩; have HP25 := hide p1; have BB26 := hide ((unhide BB23).trans b1); clear p1 b1
  go_wp2_with fail
  refine (kq_any (unhide HP25)).mono ?_
  rintro e w1 ⟨rfl, hw⟩; have hw := hw.symm; subst hw
  cases c27 : kq toks s7 [41] with
  | true =>
    have X28 := (if_pos c27).symm.trans (unhide H14)
    have q29 : ((kindL toks s7).toList == [41]) = true := c27
    clear c27 H14
    simp only [Option.bind_eq_some_iff] at X28
    obtain ⟨s30, h31, s32, h33, s34, h35, h36⟩ := X28
    have H37 : Hid _ := h31
    clear h31
    have H38 : Hid _ := h33
    clear h33
    have H39 : Hid _ := h35
    clear h35
    have H40 : Hid _ := h36
    clear h36
    have e41 := Option.some.inj (unhide H37)
    clear H37
    subst e41
    go_wp2_with fail
    refine (needM_any (unhide HP25) (unhide H38)).mono ?_
    rintro e w42 ⟨rfl, p1, b1⟩; have HP43 := hide p1; have BB44 := hide ((unhide BB26).trans b1); clear p1 b1
    go_wp2_with fail
    refine Calls.mono (unhide IHH n (Nat.le_refl n) .block s32 s34 _ rfl (unhide HP43) (unhide H39)) ?_
    rintro e w45 ⟨rfl, p1, b1⟩; have HP46 := hide p1; have BB47 := hide ((unhide BB44).trans b1); clear p1 b1
    go_wp2_with fail
    refine (closeM_any (unhide HP46) (unhide H40)).mono ?_
    rintro e w48 ⟨rfl, p1, b1⟩; have HP49 := hide p1; have BB50 := hide ((unhide BB47).trans b1); clear p1 b1
    go_wp2_with fail
    first | go_end0 | refine bodyPost_ret (results_none (by rfl) _ _ _) rfl ?_
    exact ⟨rfl, unhide HP49, unhide BB50⟩
  | false =>
    have X51 := (if_neg (show ¬ (kq toks s7 [41]) = true by rw [c27]; exact Bool.false_ne_true)).symm.trans (unhide H14)
    have q52 : ((kindL toks s7).toList == [41]) = false := c27
    clear c27 H14
    simp only [Option.bind_eq_some_iff] at X51
    obtain ⟨s53, h54, s55, h56, s57, h58, h59⟩ := X51
    have H60 : Hid _ := h54
    clear h54
    have H61 : Hid _ := h56
    clear h56
    have H62 : Hid _ := h58
    clear h58
    have H63 : Hid _ := h59
    clear h59
    go_wp2_with fail
    refine Calls.mono (unhide IHH n (Nat.le_refl n) .params s7 s53 _ rfl (unhide HP25) (unhide H60)) ?_
    rintro e w64 ⟨rfl, p1, b1⟩; have HP65 := hide p1; have BB66 := hide ((unhide BB26).trans b1); clear p1 b1
    go_wp2_with fail
    refine (needM_any (unhide HP65) (unhide H61)).mono ?_
    rintro e w67 ⟨rfl, p1, b1⟩; have HP68 := hide p1; have BB69 := hide ((unhide BB66).trans b1); clear p1 b1
    go_wp2_with fail
    refine Calls.mono (unhide IHH n (Nat.le_refl n) .block s55 s57 _ rfl (unhide HP68) (unhide H62)) ?_
    rintro e w70 ⟨rfl, p1, b1⟩; have HP71 := hide p1; have BB72 := hide ((unhide BB69).trans b1); clear p1 b1
    go_wp2_with fail
    refine (closeM_any (unhide HP71) (unhide H63)).mono ?_
    rintro e w73 ⟨rfl, p1, b1⟩; have HP74 := hide p1; have BB75 := hide ((unhide BB72).trans b1); clear p1 b1
    go_wp2_with fail
    first | go_end0 | refine bodyPost_ret (results_none (by rfl) _ _ _) rfl ?_
    exact ⟨rfl, unhide HP74, unhide BB75⟩

end Go.Proofs.YtdaneedflpfeaabGreatDoor
