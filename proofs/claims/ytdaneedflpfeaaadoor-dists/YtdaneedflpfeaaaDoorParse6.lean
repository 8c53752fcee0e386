import Derived.Test.YtdaneedflpfeaaaDoorParse1
import Derived.Test.YtdaneedflpfeaaaDoorParse2
import Derived.Test.YtdaneedflpfeaaaDoorParse3
import Derived.Test.YtdaneedflpfeaaaDoorParse4
import Derived.Test.YtdaneedflpfeaaaDoorParse5
namespace Go.Proofs.YtdaneedflpfeaaaDoor
set_option maxRecDepth 100000
open Go.RowKit

set_option maxHeartbeats 1600000 in
theorem statement_step {b : Nat} {tv : Value} {toks : List Tok} {n : Nat} (ih : ∀ m, m ≤ n → IH b tv toks m) {w : World} {st st' : PSt} (hP : PS b tv toks w st) (h : P toks (n + 1) .statement st = some st') : Does 76 b tv toks w st' := by
  have IHH := hide ih
  have HP0 := hide hP
  have HE : Hid _ := h
  clear hP ih
  rw [P] at h
  clear HE
  cases c0 : kq toks st [123] with
  | true =>
    rw [if_pos c0] at h
    have HX : Hid _ := h
    clear h
    have q0 : ((kindL toks st).toList == [123]) = true := c0
    clear c0
    unfold Does
    go_enter Tryd.func76, Tryd.ntmps76
    go_wp2_with fail
    refine (kq_any (unhide HP0)).mono ?_
    rintro e w1 ⟨rfl, hw⟩; have hw := hw.symm; subst hw
    go_wp2_with fail
    refine Calls.mono (unhide IHH n (Nat.le_refl n) .block st st' _ rfl (unhide HP0) (unhide HX)) ?_
    rintro e w1 ⟨rfl, p1, b1⟩; have HP1 := hide p1; have BB1 := hide b1; clear p1 b1
    go_wp2_with fail
    first | go_end0 | refine bodyPost_ret (results_none (by rfl) _ _ _) rfl ?_
    exact ⟨rfl, unhide HP1, unhide BB1⟩
  | false =>
  rw [if_neg (show ¬ kq toks st [123] = true by rw [c0]; exact Bool.false_ne_true)] at h
  cases c1 : kq toks st [59] with
  | true =>
    rw [if_pos c1] at h
    have HX : Hid _ := h
    clear h
    have q0 : ((kindL toks st).toList == [123]) = false := c0
    have q1 : ((kindL toks st).toList == [59]) = true := c1
    clear c0 c1
    unfold Does
    go_enter Tryd.func76, Tryd.ntmps76
    go_wp2_with fail
    refine (kq_any (unhide HP0)).mono ?_
    rintro e w1 ⟨rfl, hw⟩; have hw := hw.symm; subst hw
    go_wp2_with fail
    refine Calls.mono (unhide IHH n (Nat.le_refl n) .emptyS st st' _ rfl (unhide HP0) (unhide HX)) ?_
    rintro e w1 ⟨rfl, p1, b1⟩; have HP1 := hide p1; have BB1 := hide b1; clear p1 b1
    go_wp2_with fail
    first | go_end0 | refine bodyPost_ret (results_none (by rfl) _ _ _) rfl ?_
    exact ⟨rfl, unhide HP1, unhide BB1⟩
  | false =>
  rw [if_neg (show ¬ kq toks st [59] = true by rw [c1]; exact Bool.false_ne_true)] at h
  cases c2 : kq toks st [105, 102] with
  | true =>
    rw [if_pos c2] at h
    have HX : Hid _ := h
    clear h
    have q0 : ((kindL toks st).toList == [123]) = false := c0
    have q1 : ((kindL toks st).toList == [59]) = false := c1
    have q2 : ((kindL toks st).toList == [105, 102]) = true := c2
    clear c0 c1 c2
    unfold Does
    go_enter Tryd.func76, Tryd.ntmps76
    go_wp2_with fail
    refine (kq_any (unhide HP0)).mono ?_
    rintro e w1 ⟨rfl, hw⟩; have hw := hw.symm; subst hw
    go_wp2_with fail
    refine Calls.mono (unhide IHH n (Nat.le_refl n) .ifS st st' _ rfl (unhide HP0) (unhide HX)) ?_
    rintro e w1 ⟨rfl, p1, b1⟩; have HP1 := hide p1; have BB1 := hide b1; clear p1 b1
    go_wp2_with fail
    first | go_end0 | refine bodyPost_ret (results_none (by rfl) _ _ _) rfl ?_
    exact ⟨rfl, unhide HP1, unhide BB1⟩
  | false =>
  rw [if_neg (show ¬ kq toks st [105, 102] = true by rw [c2]; exact Bool.false_ne_true)] at h
  cases c3 : kq toks st [119, 104, 105, 108, 101] with
  | true =>
    rw [if_pos c3] at h
    have HX : Hid _ := h
    clear h
    have q0 : ((kindL toks st).toList == [123]) = false := c0
    have q1 : ((kindL toks st).toList == [59]) = false := c1
    have q2 : ((kindL toks st).toList == [105, 102]) = false := c2
    have q3 : ((kindL toks st).toList == [119, 104, 105, 108, 101]) = true := c3
    clear c0 c1 c2 c3
    unfold Does
    go_enter Tryd.func76, Tryd.ntmps76
    go_wp2_with fail
    refine (kq_any (unhide HP0)).mono ?_
    rintro e w1 ⟨rfl, hw⟩; have hw := hw.symm; subst hw
    go_wp2_with fail
    refine Calls.mono (unhide IHH n (Nat.le_refl n) .whileS st st' _ rfl (unhide HP0) (unhide HX)) ?_
    rintro e w1 ⟨rfl, p1, b1⟩; have HP1 := hide p1; have BB1 := hide b1; clear p1 b1
    go_wp2_with fail
    first | go_end0 | refine bodyPost_ret (results_none (by rfl) _ _ _) rfl ?_
    exact ⟨rfl, unhide HP1, unhide BB1⟩
  | false =>
  rw [if_neg (show ¬ kq toks st [119, 104, 105, 108, 101] = true by rw [c3]; exact Bool.false_ne_true)] at h
  cases c4 : kq toks st [114, 101, 116, 117, 114, 110] with
  | true =>
    rw [if_pos c4] at h
    have HX : Hid _ := h
    clear h
    have q0 : ((kindL toks st).toList == [123]) = false := c0
    have q1 : ((kindL toks st).toList == [59]) = false := c1
    have q2 : ((kindL toks st).toList == [105, 102]) = false := c2
    have q3 : ((kindL toks st).toList == [119, 104, 105, 108, 101]) = false := c3
    have q4 : ((kindL toks st).toList == [114, 101, 116, 117, 114, 110]) = true := c4
    clear c0 c1 c2 c3 c4
    unfold Does
    go_enter Tryd.func76, Tryd.ntmps76
    go_wp2_with fail
    refine (kq_any (unhide HP0)).mono ?_
    rintro e w1 ⟨rfl, hw⟩; have hw := hw.symm; subst hw
    go_wp2_with fail
    refine Calls.mono (unhide IHH n (Nat.le_refl n) .returnS st st' _ rfl (unhide HP0) (unhide HX)) ?_
    rintro e w1 ⟨rfl, p1, b1⟩; have HP1 := hide p1; have BB1 := hide b1; clear p1 b1
    go_wp2_with fail
    first | go_end0 | refine bodyPost_ret (results_none (by rfl) _ _ _) rfl ?_
    exact ⟨rfl, unhide HP1, unhide BB1⟩
  | false =>
  rw [if_neg (show ¬ kq toks st [114, 101, 116, 117, 114, 110] = true by rw [c4]; exact Bool.false_ne_true)] at h
  cases c5 : kq toks st [116, 121, 112, 101] with
  | true =>
    rw [if_pos c5] at h
    have HX : Hid _ := h
    clear h
    have q0 : ((kindL toks st).toList == [123]) = false := c0
    have q1 : ((kindL toks st).toList == [59]) = false := c1
    have q2 : ((kindL toks st).toList == [105, 102]) = false := c2
    have q3 : ((kindL toks st).toList == [119, 104, 105, 108, 101]) = false := c3
    have q4 : ((kindL toks st).toList == [114, 101, 116, 117, 114, 110]) = false := c4
    have q5 : ((kindL toks st).toList == [116, 121, 112, 101]) = true := c5
    clear c0 c1 c2 c3 c4 c5
    unfold Does
    go_enter Tryd.func76, Tryd.ntmps76
    go_wp2_with fail
    refine (kq_any (unhide HP0)).mono ?_
    rintro e w1 ⟨rfl, hw⟩; have hw := hw.symm; subst hw
    go_wp2_with fail
    refine Calls.mono (unhide IHH n (Nat.le_refl n) .localS st st' _ rfl (unhide HP0) (unhide HX)) ?_
    rintro e w1 ⟨rfl, p1, b1⟩; have HP1 := hide p1; have BB1 := hide b1; clear p1 b1
    go_wp2_with fail
    first | go_end0 | refine bodyPost_ret (results_none (by rfl) _ _ _) rfl ?_
    exact ⟨rfl, unhide HP1, unhide BB1⟩
  | false =>
  rw [if_neg (show ¬ kq toks st [116, 121, 112, 101] = true by rw [c5]; exact Bool.false_ne_true)] at h
  have HX : Hid _ := h
  clear h
  have q0 : ((kindL toks st).toList == [123]) = false := c0
  have q1 : ((kindL toks st).toList == [59]) = false := c1
  have q2 : ((kindL toks st).toList == [105, 102]) = false := c2
  have q3 : ((kindL toks st).toList == [119, 104, 105, 108, 101]) = false := c3
  have q4 : ((kindL toks st).toList == [114, 101, 116, 117, 114, 110]) = false := c4
  have q5 : ((kindL toks st).toList == [116, 121, 112, 101]) = false := c5
  clear c0 c1 c2 c3 c4 c5
  unfold Does
  go_enter Tryd.func76, Tryd.ntmps76
  go_wp2_with fail
  refine (kq_any (unhide HP0)).mono ?_
  rintro e w1 ⟨rfl, hw⟩; have hw := hw.symm; subst hw
  go_wp2_with fail
  refine Calls.mono (unhide IHH n (Nat.le_refl n) .expr st st' _ rfl (unhide HP0) (unhide HX)) ?_
  rintro e w1 ⟨rfl, p1, b1⟩; have HP1 := hide p1; have BB1 := hide b1; clear p1 b1
  go_wp2_with fail
  first | go_end0 | refine bodyPost_ret (results_none (by rfl) _ _ _) rfl ?_
  exact ⟨rfl, unhide HP1, unhide BB1⟩

set_option maxHeartbeats 1600000 in
theorem single_step {b : Nat} {tv : Value} {toks : List Tok} {n : Nat} (ih : ∀ m, m ≤ n → IH b tv toks m) {w : World} {st st' : PSt} (hP : PS b tv toks w st) (h : P toks (n + 1) .single st = some st') : Does 101 b tv toks w st' := by
  have IHH := hide ih
  have HP0 := hide hP
  have HE : Hid _ := h
  clear hP ih
  rw [P] at h
  clear HE
  cases c0 : kq toks st [45] with
  | true =>
    rw [if_pos (by rw [c0]; rfl)] at h
    have HX : Hid _ := h
    clear h
    have q0 : ((kindL toks st).toList == [45]) = true := c0
    clear c0
    unfold Does
    go_enter Tryd.func101, Tryd.ntmps101
    go_wp2_with fail
    refine (kq_any (unhide HP0)).mono ?_
    rintro e w1 ⟨rfl, hw⟩; have hw := hw.symm; subst hw
    go_wp2_with fail
    refine Calls.mono (unhide IHH n (Nat.le_refl n) .neg st st' _ rfl (unhide HP0) (unhide HX)) ?_
    rintro e w1 ⟨rfl, p1, b1⟩; have HP1 := hide p1; have BB1 := hide b1; clear p1 b1
    go_wp2_with fail
    first | go_end0 | refine bodyPost_ret (results_none (by rfl) _ _ _) rfl ?_
    exact ⟨rfl, unhide HP1, unhide BB1⟩
  | false =>
  cases c1 : kq toks st [33] with
  | true =>
    rw [if_pos (by rw [c0, c1]; rfl)] at h
    have HX : Hid _ := h
    clear h
    have q0 : ((kindL toks st).toList == [45]) = false := c0
    have q1 : ((kindL toks st).toList == [33]) = true := c1
    clear c0 c1
    unfold Does
    go_enter Tryd.func101, Tryd.ntmps101
    go_wp2_with fail
    refine (kq_any (unhide HP0)).mono ?_
    rintro e w1 ⟨rfl, hw⟩; have hw := hw.symm; subst hw
    go_wp2_with fail
    refine Calls.mono (unhide IHH n (Nat.le_refl n) .neg st st' _ rfl (unhide HP0) (unhide HX)) ?_
    rintro e w1 ⟨rfl, p1, b1⟩; have HP1 := hide p1; have BB1 := hide b1; clear p1 b1
    go_wp2_with fail
    first | go_end0 | refine bodyPost_ret (results_none (by rfl) _ _ _) rfl ?_
    exact ⟨rfl, unhide HP1, unhide BB1⟩
  | false =>
  rw [if_neg (by rw [c0, c1]; exact Bool.false_ne_true)] at h
  have q0 : ((kindL toks st).toList == [45]) = false := c0
  have q1 : ((kindL toks st).toList == [33]) = false := c1
  clear c0 c1
  cases c0 : kq toks st [40] with
  | true =>
    rw [if_pos c0] at h
    have HX : Hid _ := h
    clear h
    have q2 : ((kindL toks st).toList == [40]) = true := c0
    clear c0
    unfold Does
    go_enter Tryd.func101, Tryd.ntmps101
    go_wp2_with fail
    refine (kq_any (unhide HP0)).mono ?_
    rintro e w1 ⟨rfl, hw⟩; have hw := hw.symm; subst hw
    go_wp2_with fail
    refine Calls.mono (unhide IHH n (Nat.le_refl n) .group st st' _ rfl (unhide HP0) (unhide HX)) ?_
    rintro e w1 ⟨rfl, p1, b1⟩; have HP1 := hide p1; have BB1 := hide b1; clear p1 b1
    go_wp2_with fail
    first | go_end0 | refine bodyPost_ret (results_none (by rfl) _ _ _) rfl ?_
    exact ⟨rfl, unhide HP1, unhide BB1⟩
  | false =>
  rw [if_neg (show ¬ kq toks st [40] = true by rw [c0]; exact Bool.false_ne_true)] at h
  have q2 : ((kindL toks st).toList == [40]) = false := c0
  clear c0
  cases c1 : kq toks st [110, 97, 109, 101] with
  | true =>
    rw [if_pos c1] at h
    have HX : Hid _ := h
    clear h
    have q3 : ((kindL toks st).toList == [110, 97, 109, 101]) = true := c1
    clear c1
    unfold Does
    go_enter Tryd.func101, Tryd.ntmps101
    go_wp2_with fail
    refine (kq_any (unhide HP0)).mono ?_
    rintro e w1 ⟨rfl, hw⟩; have hw := hw.symm; subst hw
    go_wp2_with fail
    refine Calls.mono (unhide IHH n (Nat.le_refl n) .nameOrCall st st' _ rfl (unhide HP0) (unhide HX)) ?_
    rintro e w1 ⟨rfl, p1, b1⟩; have HP1 := hide p1; have BB1 := hide b1; clear p1 b1
    go_wp2_with fail
    first | go_end0 | refine bodyPost_ret (results_none (by rfl) _ _ _) rfl ?_
    exact ⟨rfl, unhide HP1, unhide BB1⟩
  | false =>
  rw [if_neg (show ¬ kq toks st [110, 97, 109, 101] = true by rw [c1]; exact Bool.false_ne_true)] at h
  have q3 : ((kindL toks st).toList == [110, 97, 109, 101]) = false := c1
  clear c1
  have HX : Hid _ := h
  clear h
  unfold Does
  go_enter Tryd.func101, Tryd.ntmps101
  go_wp2_with fail
  refine (kq_any (unhide HP0)).mono ?_
  rintro e w1 ⟨rfl, hw⟩; have hw := hw.symm; subst hw
  go_wp2_with fail
  refine (needM_any (unhide HP0) (unhide HX)).mono ?_
  rintro e w1 ⟨rfl, p1, b1⟩; have HP1 := hide p1; have BB1 := hide b1; clear p1 b1
  go_wp2_with fail
  first | go_end0 | refine bodyPost_ret (results_none (by rfl) _ _ _) rfl ?_
  exact ⟨rfl, unhide HP1, unhide BB1⟩

set_option maxHeartbeats 1600000 in
theorem value_step {b : Nat} {tv : Value} {toks : List Tok} {n : Nat} (ih : ∀ m, m ≤ n → IH b tv toks m) {w : World} {st st' : PSt} (hP : PS b tv toks w st) (h : P toks (n + 1) .value st = some st') : Does 87 b tv toks w st' := by
  have IHH := hide ih
  have HP0 := hide hP
  have HE : Hid _ := h
  obtain ⟨nv0, i0, i1, i2, i3, i4, if0, iown, iblk⟩ := hP.cells
  have hfew := hP.few
  have hatt := hP.att
  clear hP ih i0 i2 i3 i4 if0 iown iblk
  rw [P] at h
  clear HE
  cases c0 : kq toks st [110, 97, 109, 101] with
  | true =>
    cases c1 : ((kindAtL toks st (st.at_ + 1)).toList == [61]) with
    | true =>
      rw [if_pos (by rw [c0, c1]; rfl)] at h
      have HX : Hid _ := h
      clear h
      have q0 : ((kindL toks st).toList == [110, 97, 109, 101]) = true := c0
      clear c0
      unfold Does
      go_enter Tryd.func87, Tryd.ntmps87
      go_wp2_with fail
      refine (kq_any (unhide HP0)).mono ?_
      rintro e w1 ⟨rfl, hw⟩; have hw := hw.symm; subst hw
      go_wp2_with fail
      refine (kindAt_any b tv toks _ st (unhide HP0) _ (by omega)).mono ?_
      rintro e w1 ⟨rfl, hw⟩; have hw := hw.symm; subst hw
      rw [show ((st.at_ : Int) + 1).toNat = st.at_ + 1 from by omega]
      go_wp2_with fail
      refine Calls.mono (unhide IHH n (Nat.le_refl n) .set st st' _ rfl (unhide HP0) (unhide HX)) ?_
      rintro e w1 ⟨rfl, p1, b1⟩; have HP1 := hide p1; have BB1 := hide b1; clear p1 b1
      go_wp2_with fail
      first | go_end0 | refine bodyPost_ret (results_none (by rfl) _ _ _) rfl ?_
      exact ⟨rfl, unhide HP1, unhide BB1⟩
    | false =>
      rw [if_neg (by rw [c0, c1]; exact Bool.false_ne_true)] at h
      have HX : Hid _ := h
      clear h
      have q0 : ((kindL toks st).toList == [110, 97, 109, 101]) = true := c0
      clear c0
      unfold Does
      go_enter Tryd.func87, Tryd.ntmps87
      go_wp2_with fail
      refine (kq_any (unhide HP0)).mono ?_
      rintro e w1 ⟨rfl, hw⟩; have hw := hw.symm; subst hw
      go_wp2_with fail
      refine (kindAt_any b tv toks _ st (unhide HP0) _ (by omega)).mono ?_
      rintro e w1 ⟨rfl, hw⟩; have hw := hw.symm; subst hw
      rw [show ((st.at_ : Int) + 1).toNat = st.at_ + 1 from by omega]
      go_wp2_with fail
      refine Calls.mono (unhide IHH n (Nat.le_refl n) .or st st' _ rfl (unhide HP0) (unhide HX)) ?_
      rintro e w1 ⟨rfl, p1, b1⟩; have HP1 := hide p1; have BB1 := hide b1; clear p1 b1
      go_wp2_with fail
      first | go_end0 | refine bodyPost_ret (results_none (by rfl) _ _ _) rfl ?_
      exact ⟨rfl, unhide HP1, unhide BB1⟩
  | false =>
    rw [if_neg (by rw [c0]; exact Bool.false_ne_true)] at h
    have HX : Hid _ := h
    clear h
    have q0 : ((kindL toks st).toList == [110, 97, 109, 101]) = false := c0
    clear c0
    unfold Does
    go_enter Tryd.func87, Tryd.ntmps87
    go_wp2_with fail
    refine (kq_any (unhide HP0)).mono ?_
    rintro e w1 ⟨rfl, hw⟩; have hw := hw.symm; subst hw
    go_wp2_with fail
    refine (kindAt_any b tv toks _ st (unhide HP0) _ (by omega)).mono ?_
    rintro e w1 ⟨rfl, hw⟩; have hw := hw.symm; subst hw
    rw [show ((st.at_ : Int) + 1).toNat = st.at_ + 1 from by omega]
    go_wp2_with fail
    refine Calls.mono (unhide IHH n (Nat.le_refl n) .or st st' _ rfl (unhide HP0) (unhide HX)) ?_
    rintro e w1 ⟨rfl, p1, b1⟩; have HP1 := hide p1; have BB1 := hide b1; clear p1 b1
    go_wp2_with fail
    first | go_end0 | refine bodyPost_ret (results_none (by rfl) _ _ _) rfl ?_
    exact ⟨rfl, unhide HP1, unhide BB1⟩

/-- All methods, at every bound. -/
theorem methods (b : Nat) (tv : Value) (toks : List Tok) (n : Nat) : ∀ m, m ≤ n → IH b tv toks m := by
  induction n with
  | zero =>
    intro m hm g st st' w _ _ h
    cases Nat.le_zero.1 hm
    cases h
  | succ n ih =>
    intro m hm
    rcases Nat.lt_or_ge m (n + 1) with hlt | hge
    · exact ih m (by omega)
    obtain rfl : m = n + 1 := by omega
    intro g st st' w hg hP h
    cases g with
    | program => exact program_step ih hP h
    | function => exact function_step ih hP h
    | params => exact params_step ih hP h
    | param => exact param_step ih hP h
    | statement => exact statement_step ih hP h
    | block => exact block_step ih hP h
    | emptyS => exact emptyS_step ih hP h
    | ifS => exact ifS_step ih hP h
    | whileS => exact whileS_step ih hP h
    | returnS => exact returnS_step ih hP h
    | localS => exact localS_step ih hP h
    | expr => exact expr_step ih hP h
    | condition => exact condition_step ih hP h
    | value => exact value_step ih hP h
    | set => exact set_step ih hP h
    | or => exact or_step ih hP h
    | and => exact and_step ih hP h
    | rel => exact rel_step ih hP h
    | sum => exact sum_step ih hP h
    | prod => exact prod_step ih hP h
    | single => exact single_step ih hP h
    | neg => exact neg_step ih hP h
    | group => exact group_step ih hP h
    | nameOrCall => exact nameOrCall_step ih hP h
    | values => exact values_step ih hP h
    | funcs => cases hg
    | paramsL => cases hg
    | stmts => cases hg
    | orL => cases hg
    | andL => cases hg
    | sumL => cases hg
    | prodL => cases hg
    | valuesL => cases hg

end Go.Proofs.YtdaneedflpfeaaaDoor
