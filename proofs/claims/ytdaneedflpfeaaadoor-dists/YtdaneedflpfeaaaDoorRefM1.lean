import Derived.Test.YtdaneedflpfeaaaDoorRefAcc3
namespace Go.Proofs.YtdaneedflpfeaaaDoor
set_option maxRecDepth 100000
open Go.RowKit

set_option maxHeartbeats 3200000 in
theorem ror_step {b : Nat} {lv : Value} {rt : List RTok} {toks : List Tok} {n : Nat} (R : Rel rt toks) (ih : ∀ m, m ≤ n → RIH b lv rt toks m) {w : World} {st st' : RSt} {r : List Rw} (hP : RS b lv rt w st) (h : Rg toks (n + 1) .or st = some (r, st')) : RDoes 77 b lv rt w r st' := by
  have HR := hide R
  have IHH := hide ih
  have H0 := hide (Acc.start hP)
  clear R ih hP
  obtain ⟨l1, s1, h1, hcc⟩ := RI_wrap (show RI toks (Rg toks n) (.wrap ⟨#[111, 114]⟩ (.call .and) (.is [124, 124]) (.call .orL)) st = some (r, st') from h)
  clear h
  have X1 := hide h1
  clear h1
  unfold RDoes
  go_enter Tryd.func77, Tryd.ntmps77
  go_wp2_with fail
  refine Calls.mono (call_acc (unhide IHH n (Nat.le_refl n)) (unhide H0) .and rfl (unhide X1)) ?_
  rintro e w1 ⟨u1, rfl, a1, k1⟩
  have H1 := hide (a1.take k1)
  clear a1 k1
  rcases hcc with ⟨hc, m, h2, hf, rfl⟩ | ⟨hc, rfl, rfl⟩
  · have X2 := hide h2
    have XF := hide hf
    have hL := fine_len hf
    clear h2 hf
    go_wp2_with fail
    refine (is_acc (unhide H1) [⟨#[124, 124]⟩] true (by decide) ((is_one (unhide HR) (unhide H1).rs.att _ (by decide)).trans hc)).mono ?_
    rintro e w2 ⟨rfl, a2⟩
    have H2 := hide a2
    clear a2
    go_wp2_with fail
    go_loopg [3] n (fun g x wr => ∃ sk lk rk, g ≤ n ∧ Acc w b lv rt wr sk x lk ∧ Hid (Rg toks g .orL sk = some (rk, st')) ∧ Hid (lk ++ rk = l1 ++ m))
    case atStart => exact ⟨s1, l1, m, Nat.le_refl _, unhide H2, unhide X2, rfl⟩
    case round =>
      obtain ⟨sk, lk, rk, hg, hA, XE, XQ⟩ := hrel
      have HA := hide hA
      clear hA
      cases gk with
      | zero => cases (unhide XE)
      | succ g =>
      rcases RI_ite (show RI toks (Rg toks g) (.ite (.is [124, 124]) (.seq .take (.seq (.call .and) (.call .orL))) .skip) sk = some (rk, st') from unhide XE) with ⟨hck, hE⟩ | ⟨hck, hE⟩
      · obtain ⟨a1, q1, b1, e1, e2, rfl⟩ := RI_seq hE
        obtain ⟨a2, q2, b2, e3, e4, rfl⟩ := RI_seq e2
        have Y1 := hide e1
        have Y2 : Hid (Rg toks g .and q1 = some (a2, q2)) := e3
        have Y3 : Hid (Rg toks g .orL q2 = some (b2, st')) := e4
        have hlen := congrArg List.length (unhide XQ)
        simp only [List.length_append] at hlen hL
        clear hE e1 e2 e3 e4 XE
        go_wp2_with fail
        refine (is_acc (unhide HA) [⟨#[124, 124]⟩] true (by decide) ((is_one (unhide HR) (unhide HA).rs.att _ (by decide)).trans hck)).mono ?_
        rintro e w3 ⟨rfl, a3⟩
        have H3 := hide a3
        clear a3
        go_wp2_with fail
        refine (take_ri (unhide HR) (unhide H3) [⟨#[124, 124]⟩] (by decide) (by decide) ((is_one (unhide HR) (unhide H3).rs.att _ (by decide)).trans hck) (unhide Y1)).mono ?_
        rintro e w4 ⟨u4, rfl, a4, k4, b4⟩
        have H4 := hide a4
        have K4 := hide k4
        clear a4 k4
        go_wp2_with (first | (at_builtin; refine append_acc (unhide H4) (unhide K4) _ _ rfl rfl rfl rfl (by (try simp only [List.length_append]); omega) ?_) | fail)
        intro v5 w5 a5
        have H5 := hide a5
        clear a5
        go_wp2_with fail
        refine Calls.mono (call_acc (unhide IHH g (by omega)) (unhide H5) .and rfl (unhide Y2)) ?_
        rintro e w6 ⟨u6, rfl, a6, k6⟩
        have H6 := hide a6
        have K6 := hide k6
        clear a6 k6
        go_wp2_with (first | (at_builtin; refine append_acc (unhide H6) (unhide K6) _ _ rfl rfl rfl rfl (by (try simp only [List.length_append]); omega) ?_) | fail)
        intro v7 w7 a7
        have H7 := hide a7
        clear a7
        go_wp2_with fail
        go_roundg g
        case measure => exact Nat.lt_succ_self g
        case rel => exact ⟨q2, _, b2, by omega, unhide H7, unhide Y3, by show _ = _; rw [← unhide XQ]; simp only [List.append_assoc]⟩
      · obtain ⟨rfl, rfl⟩ := RI_skip hE
        have hq : lk = l1 ++ m := by rw [← unhide XQ, List.append_nil]
        subst hq
        clear hE XE XQ
        go_wp2_with fail
        refine (is_acc (unhide HA) [⟨#[124, 124]⟩] false (by decide) ((is_one (unhide HR) (unhide HA).rs.att _ (by decide)).trans hck)).mono ?_
        rintro e w8 ⟨rfl, a8⟩
        have H8 := hide a8
        clear a8
        go_wp2_with fail
        refine (node_acc (unhide H8) (unhide H8).own ⟨#[111, 114]⟩ (by simpa only [List.append_assoc] using unhide XF)).mono ?_
        rintro e w9 ⟨u9, rfl, a9, k9⟩
        have H9 := hide (a9.take k9)
        clear a9 k9
        go_wp2_with fail
        go_ret
        exact ⟨_, rfl, (unhide H9).cast (by first | rfl | simp)⟩
  · skip
    go_wp2_with fail
    refine (is_acc (unhide H1) [⟨#[124, 124]⟩] false (by decide) ((is_one (unhide HR) (unhide H1).rs.att _ (by decide)).trans hc)).mono ?_
    rintro e w10 ⟨rfl, a10⟩
    have H10 := hide a10
    clear a10
    go_wp2_with fail
    go_ret
    exact ⟨_, rfl, (unhide H10).cast (by first | rfl | simp)⟩

set_option maxHeartbeats 3200000 in
theorem rand_step {b : Nat} {lv : Value} {rt : List RTok} {toks : List Tok} {n : Nat} (R : Rel rt toks) (ih : ∀ m, m ≤ n → RIH b lv rt toks m) {w : World} {st st' : RSt} {r : List Rw} (hP : RS b lv rt w st) (h : Rg toks (n + 1) .and st = some (r, st')) : RDoes 85 b lv rt w r st' := by
  have HR := hide R
  have IHH := hide ih
  have H0 := hide (Acc.start hP)
  clear R ih hP
  obtain ⟨l1, s1, h1, hcc⟩ := RI_wrap (show RI toks (Rg toks n) (.wrap ⟨#[97, 110, 100]⟩ (.call .rel) (.is [38, 38]) (.call .andL)) st = some (r, st') from h)
  clear h
  have X1 := hide h1
  clear h1
  unfold RDoes
  go_enter Tryd.func85, Tryd.ntmps85
  go_wp2_with fail
  refine Calls.mono (call_acc (unhide IHH n (Nat.le_refl n)) (unhide H0) .rel rfl (unhide X1)) ?_
  rintro e w1 ⟨u1, rfl, a1, k1⟩
  have H1 := hide (a1.take k1)
  clear a1 k1
  rcases hcc with ⟨hc, m, h2, hf, rfl⟩ | ⟨hc, rfl, rfl⟩
  · have X2 := hide h2
    have XF := hide hf
    have hL := fine_len hf
    clear h2 hf
    go_wp2_with fail
    refine (is_acc (unhide H1) [⟨#[38, 38]⟩] true (by decide) ((is_one (unhide HR) (unhide H1).rs.att _ (by decide)).trans hc)).mono ?_
    rintro e w2 ⟨rfl, a2⟩
    have H2 := hide a2
    clear a2
    go_wp2_with fail
    go_loopg [3] n (fun g x wr => ∃ sk lk rk, g ≤ n ∧ Acc w b lv rt wr sk x lk ∧ Hid (Rg toks g .andL sk = some (rk, st')) ∧ Hid (lk ++ rk = l1 ++ m))
    case atStart => exact ⟨s1, l1, m, Nat.le_refl _, unhide H2, unhide X2, rfl⟩
    case round =>
      obtain ⟨sk, lk, rk, hg, hA, XE, XQ⟩ := hrel
      have HA := hide hA
      clear hA
      cases gk with
      | zero => cases (unhide XE)
      | succ g =>
      rcases RI_ite (show RI toks (Rg toks g) (.ite (.is [38, 38]) (.seq .take (.seq (.call .rel) (.call .andL))) .skip) sk = some (rk, st') from unhide XE) with ⟨hck, hE⟩ | ⟨hck, hE⟩
      · obtain ⟨a1, q1, b1, e1, e2, rfl⟩ := RI_seq hE
        obtain ⟨a2, q2, b2, e3, e4, rfl⟩ := RI_seq e2
        have Y1 := hide e1
        have Y2 : Hid (Rg toks g .rel q1 = some (a2, q2)) := e3
        have Y3 : Hid (Rg toks g .andL q2 = some (b2, st')) := e4
        have hlen := congrArg List.length (unhide XQ)
        simp only [List.length_append] at hlen hL
        clear hE e1 e2 e3 e4 XE
        go_wp2_with fail
        refine (is_acc (unhide HA) [⟨#[38, 38]⟩] true (by decide) ((is_one (unhide HR) (unhide HA).rs.att _ (by decide)).trans hck)).mono ?_
        rintro e w3 ⟨rfl, a3⟩
        have H3 := hide a3
        clear a3
        go_wp2_with fail
        refine (take_ri (unhide HR) (unhide H3) [⟨#[38, 38]⟩] (by decide) (by decide) ((is_one (unhide HR) (unhide H3).rs.att _ (by decide)).trans hck) (unhide Y1)).mono ?_
        rintro e w4 ⟨u4, rfl, a4, k4, b4⟩
        have H4 := hide a4
        have K4 := hide k4
        clear a4 k4
        go_wp2_with (first | (at_builtin; refine append_acc (unhide H4) (unhide K4) _ _ rfl rfl rfl rfl (by (try simp only [List.length_append]); omega) ?_) | fail)
        intro v5 w5 a5
        have H5 := hide a5
        clear a5
        go_wp2_with fail
        refine Calls.mono (call_acc (unhide IHH g (by omega)) (unhide H5) .rel rfl (unhide Y2)) ?_
        rintro e w6 ⟨u6, rfl, a6, k6⟩
        have H6 := hide a6
        have K6 := hide k6
        clear a6 k6
        go_wp2_with (first | (at_builtin; refine append_acc (unhide H6) (unhide K6) _ _ rfl rfl rfl rfl (by (try simp only [List.length_append]); omega) ?_) | fail)
        intro v7 w7 a7
        have H7 := hide a7
        clear a7
        go_wp2_with fail
        go_roundg g
        case measure => exact Nat.lt_succ_self g
        case rel => exact ⟨q2, _, b2, by omega, unhide H7, unhide Y3, by show _ = _; rw [← unhide XQ]; simp only [List.append_assoc]⟩
      · obtain ⟨rfl, rfl⟩ := RI_skip hE
        have hq : lk = l1 ++ m := by rw [← unhide XQ, List.append_nil]
        subst hq
        clear hE XE XQ
        go_wp2_with fail
        refine (is_acc (unhide HA) [⟨#[38, 38]⟩] false (by decide) ((is_one (unhide HR) (unhide HA).rs.att _ (by decide)).trans hck)).mono ?_
        rintro e w8 ⟨rfl, a8⟩
        have H8 := hide a8
        clear a8
        go_wp2_with fail
        refine (node_acc (unhide H8) (unhide H8).own ⟨#[97, 110, 100]⟩ (by simpa only [List.append_assoc] using unhide XF)).mono ?_
        rintro e w9 ⟨u9, rfl, a9, k9⟩
        have H9 := hide (a9.take k9)
        clear a9 k9
        go_wp2_with fail
        go_ret
        exact ⟨_, rfl, (unhide H9).cast (by first | rfl | simp)⟩
  · skip
    go_wp2_with fail
    refine (is_acc (unhide H1) [⟨#[38, 38]⟩] false (by decide) ((is_one (unhide HR) (unhide H1).rs.att _ (by decide)).trans hc)).mono ?_
    rintro e w10 ⟨rfl, a10⟩
    have H10 := hide a10
    clear a10
    go_wp2_with fail
    go_ret
    exact ⟨_, rfl, (unhide H10).cast (by first | rfl | simp)⟩

end Go.Proofs.YtdaneedflpfeaaaDoor
